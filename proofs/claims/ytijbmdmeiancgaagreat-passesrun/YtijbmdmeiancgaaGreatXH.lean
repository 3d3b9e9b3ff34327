import Derived.Below
namespace Go
theorem Hid.o {p:Prop} (h:Hid p):p:=h
end Go
