package module_test

import (
	"math"
	"slices"
	"testing"

	"casement/api"
	"casement/module"
)

// encodes holds Encode to the model, and tells the error.
func encodes(t *testing.T, what string, m api.Module) api.Errno {
	t.Helper()
	b, code := module.Encode(m)
	if want, wanted := modelEncode(m); !slices.Equal(b, want) || code != wanted {
		t.Errorf("Encode of %s = %v, %d, not %v, %d", what, b[:min(len(b), 40)], code, want[:min(len(want), 40)], wanted)
	}
	return code
}

func TestP12_1_EncodeModules(t *testing.T) {
	for _, x := range []struct {
		m    api.Module
		want []byte
	}{
		{least(), little()},
		{rich(), []byte{67, 83, 77, 1, 44, 1, 2, 0, 'a', 'b', 2, 3, 0, 2, 3, 0, 1, 1, 6, 8, 27, 0, 1, 0, 2, 0, 1, 128, 1, 27}},
		{mod(1024, make([]byte, 258), fn(8, 1, 8, nops(257)...)), join([]byte{67, 83, 77, 1, 0, 4, 2, 1}, make([]byte, 258), []byte{1, 8, 1, 8, 1, 1}, make([]byte, 257))},
		{mod(0, []byte{}, fn(0, 0, 16, ins(push, math.MinInt64))), []byte{67, 83, 77, 1, 0, 0, 0, 0, 1, 0, 0, 16, 1, 0, 1, 255, 255, 255, 255, 255, 255, 255, 255, 255, 1}},
	} {
		if b, code := module.Encode(x.m); !slices.Equal(b, x.want) || code != 0 {
			t.Errorf("Encode(%v) = %v, %d, not %v", x.m, b, code, x.want)
		}
		encodes(t, "a module", x.m)
	}
}

func TestP12_1_EncodeNumbers(t *testing.T) {
	var numbers []int64
	for shift := range 64 {
		for n := int64(-2); n <= 2; n++ {
			numbers = append(numbers, 1<<shift+n, -(1<<shift)+n)
		}
	}
	for _, n := range numbers {
		for op := range 30 {
			code := encodes(t, "a number", mod(0, nil, fn(0, 0, 0, ins(op, n))))
			want := api.OK
			if n != 0 && !modelHas(op) {
				want = 1
			}
			if code != want {
				t.Errorf("Encode of op %d with %d: %d, not %d", op, n, code, want)
			}
		}
	}
}

// odd are numbers at the bounds, and such as would be within them in fewer bits.
func odd(bounds ...int) []int {
	list := []int{math.MinInt, math.MinInt + 1, -1 << 32, -257, -256, -255, -1, 0, 1, 255, 256, 257, 1 << 16, 1<<16 + 1, 1 << 32, 1<<32 + 1, math.MaxInt - 1, math.MaxInt}
	for _, n := range bounds {
		list = append(list, n-1, n, n+1, 1<<32+n, 256+n)
	}
	return list
}

func TestP12_1_EncodeBounds(t *testing.T) {
	fails := func(what string, n int, m api.Module, right bool) {
		t.Helper()
		want := api.OK
		if !right {
			want = 1
		}
		if code := encodes(t, what, m); code != want {
			t.Errorf("Encode with %s %d: %d, not %d", what, n, code, want)
		}
	}
	for _, n := range odd(1024) {
		fails("Mem", n, mod(n, nil, least().Funcs...), n >= 0 && n <= 1024)
		if n >= 0 && n <= 1<<16 {
			fails("data in 1024", n, mod(1024, make([]byte, n), least().Funcs...), n <= 1024)
			fails("data in 256", n, mod(256, make([]byte, n), least().Funcs...), n <= 256)
			fails("data in none", n, mod(0, make([]byte, n), least().Funcs...), n == 0)
		}
		fails("Mem with a byte of data", n, mod(n, []byte{1}, least().Funcs...), n >= 1 && n <= 1024)
	}
	for n := range 40 {
		fails("functions", n, mod(0, nil, slices.Repeat(least().Funcs, n)...), n >= 1 && n <= 16)
	}
	for _, n := range odd(1, 8, 16) {
		fails("Params", n, mod(0, nil, least().Funcs[0], fn(n, 0, 0, ins(ret, 0))), n >= 0 && n <= 8)
		fails("Results", n, mod(0, nil, least().Funcs[0], fn(0, n, 0, ins(ret, 0))), n == 0 || n == 1)
		fails("Locals", n, mod(0, nil, least().Funcs[0], fn(0, 0, n, ins(ret, 0))), n >= 0 && n <= 16)
		fails("Locals with 3 Params", n, mod(0, nil, least().Funcs[0], fn(3, 0, n, ins(ret, 0))), n >= 0 && n <= 13)
		fails("Locals with 8 Params", n, mod(0, nil, least().Funcs[0], fn(8, 0, n, ins(ret, 0))), n >= 0 && n <= 8)
		fails("Params with Locals that make up for them", n, mod(0, nil, fn(n, 0, -n, ins(ret, 0))), n == 0)
	}
	for _, n := range []int{0, 1, 2, 255, 256, 257, 399, 400, 401, 402, 512, 1 << 16, 1<<16 + 1} {
		fails("instructions", n, mod(0, nil, fn(0, 0, 0, nops(n)...)), n >= 1 && n <= 400)
	}
	for _, n := range odd(29) {
		fails("Op", n, mod(0, nil, fn(0, 0, 0, ins(ret, 0), ins(n, 0))), n >= 0 && n <= 29)
		fails("Op with a number", n, mod(0, nil, fn(0, 0, 0, ins(ret, 0), ins(n, 3))), modelHas(n))
	}
}

func TestP12_1_EncodeWhatIsLast(t *testing.T) {
	for what, spoilt := range map[string]func(m *api.Module){
		"Params":  func(m *api.Module) { m.Funcs[15].Params = 9 },
		"Results": func(m *api.Module) { m.Funcs[15].Results = 2 },
		"Locals":  func(m *api.Module) { m.Funcs[15].Locals = -1 },
		"code":    func(m *api.Module) { m.Funcs[15].Code = nil },
		"Op":      func(m *api.Module) { m.Funcs[15].Code[399].Op = 30 },
		"N":       func(m *api.Module) { m.Funcs[15].Code[399] = ins(nop, 1) },
	} {
		// ErrArg comes ahead of ErrLong.
		m := copied(mod(1024, make([]byte, 1024), slices.Repeat([]api.Func{fn(8, 1, 8, nops(400)...)}, 16)...))
		if code := encodes(t, "a module that is too long", m); code != 2 {
			t.Errorf("Encode of a module that is too long: %d", code)
		}
		spoilt(&m)
		if code := encodes(t, "one with wrong "+what, m); code != 1 {
			t.Errorf("Encode of one with wrong %s: %d", what, code)
		}
		m = copied(mod(0, nil, slices.Repeat([]api.Func{fn(0, 0, 0, nops(400)...)}, 16)...))
		spoilt(&m)
		for i := range 15 {
			m.Funcs[i].Code = nops(1)
		}
		if code := encodes(t, "a short one with wrong "+what, m); code != 1 {
			t.Errorf("Encode of a short one with wrong %s: %d", what, code)
		}
	}
	for _, m := range []api.Module{{}, {Mem: 5}, {Data: []byte{1}}, {Funcs: []api.Func{}}, {Funcs: []api.Func{{}}}, {Funcs: make([]api.Func, 1<<20)}, mod(0, nil, fn(0, 0, 0, nops(1<<20)...)), mod(1024, make([]byte, 1<<24), least().Funcs...)} {
		if b, code := module.Encode(m); len(b) != 0 || code != 1 {
			t.Errorf("Encode of no module = %v, %d", b, code)
		}
	}
}

func TestP12_1_EncodeLong(t *testing.T) {
	for n := 4000; n < 4200; n++ {
		want := api.OK
		if n > 4096 {
			want = 2
		}
		b, code := module.Encode(long(n))
		if code != want || code == 0 && len(b) != n || code != 0 && len(b) > 0 {
			t.Errorf("Encode of %d bytes: %d bytes, %d", n, len(b), code)
		}
		encodes(t, "a long module", long(n))
	}
	// So many instructions may be too long, or not, by their numbers.
	wide := mod(0, nil, fn(0, 0, 0, slices.Repeat([]api.Ins{ins(host, math.MinInt64)}, 371)...))
	if code := encodes(t, "4095 bytes by numbers", wide); code != 0 {
		t.Errorf("Encode of 4095 bytes by numbers: %d", code)
	}
	wide.Funcs[0].Code = append(wide.Funcs[0].Code, ins(nop, 0))
	if code := encodes(t, "4096 bytes by numbers", wide); code != 0 {
		t.Errorf("Encode of 4096 bytes by numbers: %d", code)
	}
	wide.Funcs[0].Code = append(wide.Funcs[0].Code, ins(nop, 0))
	if code := encodes(t, "4097 bytes by numbers", wide); code != 2 {
		t.Errorf("Encode of 4097 bytes by numbers: %d", code)
	}
}
