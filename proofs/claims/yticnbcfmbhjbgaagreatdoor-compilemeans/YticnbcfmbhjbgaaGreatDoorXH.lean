import Derived.WalkKit
namespace Go.RowKit
theorem Hid.o {p:Prop} (h:Hid p):p:=h
end Go.RowKit
open Go Go.RowKit Go.IntWalk
abbrev gdE:=@List.getD_eq_getElem?_getD
abbrev bPr:=@bodyPost_ret
abbrev gEg:=@List.getElem?_eq_getElem
abbrev nLr:=@Nat.le_refl
abbrev lLa:=@List.length_append
abbrev bAt:=@Bool.and_eq_true
abbrev wSa:=@World.size_alloc
abbrev iTn:=@Int.toNat_natCast
abbrev lLc:=@List.length_cons
abbrev wBl:=@World.block_lt_of_cell?
abbrev lTl:=@List.take_of_length_le
abbrev dEt:=@decide_eq_true_eq
abbrev lAa:=@List.append_assoc
abbrev aGs:=@Array.getElem?_eq_some_iff
abbrev lMc:=@List.map_cons
abbrev iLr:=@Int.le_refl
abbrev iTe:=@Int.tdiv_eq_ediv_of_nonneg
abbrev lNm:=@List.not_mem_nil
abbrev gAl:=@List.getElem?_append_left
abbrev lTs:=@List.take_succ_eq_append_getElem
abbrev lTg:=@List.take_length
abbrev nZl:=@Nat.zero_le
abbrev nZa:=@Nat.zero_add
abbrev gEm:=@List.getElem?_map
abbrev lTd:=@List.take_append_drop
abbrev lMm:=@List.mem_cons
abbrev oGs:=@Option.getD_some
abbrev lLt:=@List.length_take
abbrev gAr:=@List.getElem?_append_right
abbrev lLn:=@List.length_nil
abbrev lAe:=@List.all_eq_true
abbrev lAc:=@List.all_cons
abbrev Go.Value.i (x:Int):Go.Value:=.int .i64 x
abbrev Go.Lit.i (x:Int):Go.Lit:=.int .i64 x
