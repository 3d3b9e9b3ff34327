package share

import (
	"slices"
	"testing"

	"damask/api"
	"damask/code"
	"damask/verify"
)

// Equal instructions have equal spans, and those of what is ordered hang on no order: the new code of a code that is taken is taken too, so the calls never come to the old one. What they would do then is asked here, of new codes that no rule makes.

var (
	image = api.Kind{Form: api.Image, Depth: 8}
	place = api.Inst{Op: api.OpPlace, K: 16}
	one   = api.Inst{Op: api.OpNum, K: 1}
)

func TestNewCodeThatIsTaken(t *testing.T) {
	was := api.Code{Kind: image, Insts: []api.Inst{place, {Op: api.OpSub}}, Out: 1}
	for _, made := range []api.Code{
		{Kind: image, Insts: []api.Inst{place, {Op: api.OpNum}}, Out: 1},
		{Kind: image, Insts: []api.Inst{place, {Op: api.OpSub}}, Out: 0},
		was,
	} {
		if got := harmless(made, was); !code.Same(got, made) {
			t.Errorf("harmless(%v) = %v", made, got)
		}
	}
}

func TestNewCodeThatIsRefused(t *testing.T) {
	dear := append([]api.Inst{one, one}, slices.Repeat([]api.Inst{{Op: api.OpDiv, A: 0, B: 1}}, 50)...)
	for want, made := range map[api.Errno]api.Code{
		api.ErrCode:     {Kind: image, Insts: []api.Inst{place, {Op: api.OpNeg, A: 1}}, Out: 1},
		api.ErrAhead:    {Kind: image, Insts: []api.Inst{{Op: api.OpPlace, K: 44}, one}, Out: 1},
		api.ErrDivZero:  {Kind: image, Insts: []api.Inst{place, {Op: api.OpDiv}}, Out: 1},
		api.ErrOverflow: {Kind: image, Insts: []api.Inst{{Op: api.OpNum, K: api.MaxNumber}, {Op: api.OpAdd}}, Out: 1},
		api.ErrCost:     {Kind: image, Insts: dear, Out: 1},
	} {
		if _, e := verify.Verify(made); e != want {
			t.Fatalf("%v: %d, not %d", made, e, want)
		}
		list := []api.Inst{place, {Op: api.OpIn, K: api.InLo}, {Op: api.OpAdd, A: 0, B: 1}, one}
		was := api.Code{Kind: image, Insts: list[:3], Out: 2}
		kept := api.Code{Kind: image, Insts: slices.Clone(was.Insts), Out: 2}
		got := harmless(made, was)
		if !code.Same(got, kept) {
			t.Errorf("the code as it was is %v, not %v", got, kept)
		}
		// It is new memory, spare room included.
		room := got.Insts[:cap(got.Insts)]
		for i := range room {
			room[i] = api.Inst{Op: -9}
		}
		if !code.Same(was, kept) || list[3] != one {
			t.Errorf("the answer shares memory with the code that was handed in: %v", list)
		}
	}
}
