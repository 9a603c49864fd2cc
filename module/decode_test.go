package module_test

import (
	"bytes"
	"math"
	"slices"
	"testing"

	"casement/api"
	"casement/module"
)

// decodes holds Decode to a module, or to a fault at a place.
func decodes(t *testing.T, what string, b []byte, want api.Module, fault api.Fault) {
	t.Helper()
	m, f := module.Decode(b)
	if !same(m, want) || f != fault {
		t.Errorf("Decode of %s (%v) = %v, %v, not %v, %v", what, b[:min(len(b), 40)], m, f, want, fault)
	}
}

// at is ErrModule at a place.
func at(place int) api.Fault { return api.Fault{Code: 120, At: place} }

// little are the bytes of the least module.
func little() []byte { return []byte{67, 83, 77, 1, 0, 0, 0, 0, 1, 0, 0, 0, 1, 0, 27} }

// two is a number of two bytes.
func two(n int) []byte { return []byte{byte(n), byte(n >> 8)} }

func TestP12_1_Ops(t *testing.T) {
	for want, op := range []int{
		module.Nop, module.Push, module.Drop, module.Dup, module.Swap, module.Get, module.Set, module.Add, module.Sub, module.Mul,
		module.Div, module.Mod, module.And, module.Or, module.Xor, module.Shl, module.Shr, module.Eq, module.Lt, module.Not,
		module.Load, module.Store, module.Load8, module.Store8, module.Jump, module.JumpIf, module.Call, module.Ret, module.Host, module.Trap,
	} {
		if op != want {
			t.Errorf("op %d is %d", want, op)
		}
	}
}

func TestP12_1_Has(t *testing.T) {
	have := []int{1, 5, 6, 24, 25, 26, 28}
	for op := -300; op < 600; op++ {
		if got := module.Has(op); got != slices.Contains(have, op) {
			t.Errorf("Has(%d) = %v", op, got)
		}
	}
	for _, op := range []int{math.MinInt, math.MaxInt, 1<<32 + 1, 1 << 32, -1 << 63} {
		if module.Has(op) {
			t.Errorf("Has(%d)", op)
		}
	}
}

func TestP12_1_DecodeModules(t *testing.T) {
	decodes(t, "the least module", little(), least(), api.Fault{})
	decodes(t, "a rich module", []byte{67, 83, 77, 1, 44, 1, 2, 0, 'a', 'b', 2, 3, 0, 2, 3, 0, 1, 1, 6, 8, 27, 0, 1, 0, 2, 0, 1, 128, 1, 27}, rich(), api.Fault{})
	decodes(t, "as much of all as may be", join([]byte{67, 83, 77, 1, 0, 4, 0, 4}, bytes.Repeat([]byte{7}, 1024), []byte{2, 8, 1, 8, 144, 1}, make([]byte, 400), []byte{0, 0, 16, 1, 0, 27}),
		mod(1024, bytes.Repeat([]byte{7}, 1024), fn(8, 1, 8, nops(400)...), fn(0, 0, 16, ins(ret, 0))), api.Fault{})
	one := []byte{0, 0, 0, 1, 0, 27}
	decodes(t, "sixteen functions", join([]byte{67, 83, 77, 1, 0, 0, 0, 0, 16}, bytes.Repeat(one, 16)), mod(0, nil, slices.Repeat([]api.Func{least().Funcs[0]}, 16)...), api.Fault{})
}

func TestP12_1_DecodeHead(t *testing.T) {
	for _, b := range [][]byte{nil, {}} {
		decodes(t, "nothing", b, api.Module{}, at(0))
	}
	for place := range 4 {
		for c := range 256 {
			want, fault := least(), api.Fault{}
			if byte(c) != little()[place] {
				want, fault = api.Module{}, at(place)
			}
			decodes(t, "a head", with(little(), place, byte(c)), want, fault)
		}
	}
	decodes(t, "a wrong head alone", []byte{67, 83, 77, 2}, api.Module{}, at(3))
	decodes(t, "a small letter", []byte{99}, api.Module{}, at(0))
}

func TestP12_1_DecodeMemory(t *testing.T) {
	for n := range 1 << 16 {
		want, fault := api.Module{}, at(5)
		if n <= 1024 {
			want, fault = mod(n, nil, least().Funcs...), api.Fault{}
		}
		decodes(t, "a memory", join(little()[:4], two(n), little()[6:]), want, fault)
	}
	for low := range 256 {
		decodes(t, "half a memory's length", join(little()[:4], []byte{byte(low)}), api.Module{}, at(5))
	}
}

func TestP12_1_DecodeData(t *testing.T) {
	data := bytes.Repeat([]byte{250, 0, 27}, 400)
	for _, mem := range []int{0, 1, 5, 254, 255, 256, 257, 300, 511, 512, 767, 768, 1023, 1024} {
		for n := range 1 << 11 {
			head := join(little()[:4], two(mem), two(n))
			want, fault := api.Module{}, at(7)
			switch {
			case n <= mem:
				want, fault = mod(mem, data[:n], least().Funcs...), api.Fault{}
			case n%256 > mem: // no second byte makes it right
				fault = at(6)
			}
			decodes(t, "data", join(head, data[:min(n, mem)], little()[8:]), want, fault)
			if n <= mem && n > 0 {
				decodes(t, "too little data", join(head, data[:n-1]), api.Module{}, at(8+n-1))
				decodes(t, "no data", head, api.Module{}, at(8))
			}
		}
		decodes(t, "half a length of no data", join(little()[:4], two(mem), []byte{0}), api.Module{}, at(7))
	}
	decodes(t, "a first byte too great, alone", join(little()[:4], two(200), []byte{201}), api.Module{}, at(6))
	decodes(t, "a second byte that is too great, with data", join(little()[:4], two(10), []byte{5, 1}, little()), api.Module{}, at(7))
}

func TestP12_1_DecodeFunctions(t *testing.T) {
	one := []byte{0, 0, 0, 1, 0, 27}
	for n := range 256 {
		want, fault := api.Module{}, at(8)
		if n >= 1 && n <= 16 {
			want, fault = mod(0, nil, slices.Repeat(least().Funcs, n)...), api.Fault{}
		}
		decodes(t, "functions", join(little()[:8], []byte{byte(n)}, bytes.Repeat(one, n)), want, fault)
	}
	for params := range 256 {
		for _, results := range []int{0, 1, 2, 3, 128, 255} {
			for locals := range 256 {
				want, fault := api.Module{}, at(9)
				switch {
				case params > 8:
				case results > 1:
					fault = at(10)
				case params+locals > 16:
					fault = at(11)
				default:
					want, fault = mod(0, nil, fn(params, results, locals, ins(ret, 0))), api.Fault{}
				}
				decodes(t, "a function", join(little()[:9], []byte{byte(params), byte(results), byte(locals), 1, 0, 27}), want, fault)
			}
		}
	}
}

func TestP12_1_DecodeInstructions(t *testing.T) {
	for n := range 1 << 16 {
		want, fault := api.Module{}, at(13)
		if n >= 1 && n <= 400 {
			want, fault = mod(0, nil, fn(0, 0, 0, nops(n)...)), api.Fault{}
		}
		decodes(t, "instructions", join(little()[:12], two(n), make([]byte, min(n, 400))), want, fault)
	}
	for low := range 256 {
		decodes(t, "half a number of instructions", join(little()[:12], []byte{byte(low)}), api.Module{}, at(13))
	}
	for op := range 256 {
		b := with(little(), 14, byte(op))
		is := mod(0, nil, fn(0, 0, 0, ins(op, 0)))
		switch {
		case op >= 30:
			decodes(t, "no op", b, api.Module{}, at(14))
			decodes(t, "no op, and a number", append(b, 0), api.Module{}, at(14))
		case modelHas(op):
			decodes(t, "an op without its number", b, api.Module{}, at(15))
			decodes(t, "an op with its number", append(b, 0), is, api.Fault{})
		default:
			decodes(t, "an op", b, is, api.Fault{})
			decodes(t, "an op with a number that it hasn't", append(b, 0), api.Module{}, at(15))
		}
	}
}

func TestP12_1_DecodeNumbers(t *testing.T) {
	full := bytes.Repeat([]byte{255}, 9)
	none := bytes.Repeat([]byte{128}, 9)
	for _, op := range []byte{1, 5, 6, 24, 25, 26, 28} {
		for _, x := range []struct {
			n int64
			b []byte
		}{
			{0, []byte{0}}, {-1, []byte{1}}, {1, []byte{2}}, {-2, []byte{3}}, {2, []byte{4}}, {63, []byte{126}}, {-64, []byte{127}},
			{64, []byte{128, 1}}, {-65, []byte{129, 1}}, {127, []byte{254, 1}}, {-128, []byte{255, 1}}, {128, []byte{128, 2}},
			{8191, []byte{254, 127}}, {-8192, []byte{255, 127}}, {8192, []byte{128, 128, 1}}, {-8193, []byte{129, 128, 1}},
			{1 << 55, join(none[:8], []byte{1})}, {1<<62 - 1, join([]byte{254}, full[:7], []byte{127})}, {-1 << 62, join(full[:8], []byte{127})},
			{1 << 62, join(none, []byte{1})}, {-1<<62 - 1, join([]byte{129}, none[:8], []byte{1})},
			{math.MaxInt64, join([]byte{254}, full[:8], []byte{1})}, {math.MinInt64, join(full, []byte{1})},
		} {
			decodes(t, "a number", join(little()[:14], []byte{op}, x.b), mod(0, nil, fn(0, 0, 0, ins(int(op), x.n))), api.Fault{})
			for i := range x.b {
				decodes(t, "a number's beginning", join(little()[:14], []byte{op}, x.b[:i]), api.Module{}, at(15+i))
			}
		}
	}
}

func TestP12_1_DecodeWrongNumbers(t *testing.T) {
	for place := 1; place < 10; place++ {
		for c := range 256 {
			for _, fill := range []byte{128, 255, 170} {
				b := join(little()[:14], []byte{28}, bytes.Repeat([]byte{fill}, place), []byte{byte(c)})
				fault, more := api.Fault{}, at(len(b))
				switch {
				case c == 0, place == 9 && c > 1:
					fault, more = at(15+place), at(15+place)
				case c >= 128: // a 0 behind it is a last one
					fault = at(16 + place)
				}
				if m, f := module.Decode(b); f != fault || len(m.Funcs) != map[bool]int{true: 1}[f == api.Fault{}] {
					t.Errorf("Decode of a number of %d times %d and %d = %v, %v, not %v", place, fill, c, m, f, fault)
				}
				decodes(t, "a number, and more", append(b, 0), api.Module{}, more)
			}
		}
	}
	decodes(t, "a number of eleven groups", join(little()[:14], []byte{28}, bytes.Repeat([]byte{128}, 10), []byte{1}), api.Module{}, at(24))
	decodes(t, "a number without an end", join(little()[:14], []byte{28}, bytes.Repeat([]byte{255}, 4000)), api.Module{}, at(24))
}

func TestP12_1_DecodeLong(t *testing.T) {
	longest, _ := modelEncode(long(4096))
	decodes(t, "4096 bytes", longest, long(4096), api.Fault{})
	decodes(t, "a byte more than 4096", append(slices.Clone(longest), 0), api.Module{}, api.Fault{Code: 2})
	decodes(t, "4097 zeros", make([]byte, 4097), api.Module{}, api.Fault{Code: 2})
	decodes(t, "very many bytes", make([]byte, 1<<24), api.Module{}, api.Fault{Code: 2})
	decodes(t, "4096 zeros", make([]byte, 4096), api.Module{}, at(0))
	decodes(t, "the least module and many bytes", join(little(), make([]byte, 4096-15)), api.Module{}, at(15))
	// It might go on, but for its length.
	decodes(t, "a beginning of a module that is too long", join(little()[:8], []byte{16}, bytes.Repeat(join([]byte{0, 0, 0, 144, 1}, make([]byte, 400)), 16))[:4096], api.Module{}, at(4096))
	decodes(t, "the same with what is wrong at its end", with(join(little()[:8], []byte{16}, bytes.Repeat(join([]byte{0, 0, 0, 144, 1}, make([]byte, 400)), 16))[:4096], 4095, 30), api.Module{}, at(4095))
}
