package module_test

import (
	"math/rand"
	"slices"
	"testing"

	"casement/api"
	"casement/module"
)

// decodesAsModel holds Decode to the model, and tells the fault.
func decodesAsModel(t *testing.T, b []byte) api.Fault {
	t.Helper()
	m, f := module.Decode(b)
	if want, fault := modelDecode(b); !same(m, want) || f != fault {
		t.Fatalf("Decode(%v) = %v, %v, not %v, %v", b, m, f, want, fault)
	}
	return f
}

func TestP12_1_RandomModules(t *testing.T) {
	rnd := rand.New(rand.NewSource(1))
	codes := map[api.Errno]int{}
	for range 10000 {
		m := someModule(rnd)
		if rnd.Intn(2) == 0 {
			harm(rnd, &m)
		}
		codes[encodes(t, "a random module", m)]++
	}
	if codes[0] < 4000 || codes[1] < 2000 || codes[2] < 50 {
		t.Errorf("codes: %v", codes)
	}
}

func TestP12_1_RandomBytes(t *testing.T) {
	rnd := rand.New(rand.NewSource(2))
	faults := map[api.Errno]int{}
	for range 20000 {
		b, _ := modelEncode(someModule(rnd))
		for range rnd.Intn(3) {
			if len(b) == 0 {
				break
			}
			switch place := rnd.Intn(len(b)); rnd.Intn(4) {
			case 0:
				b[place] = byte(rnd.Intn(256))
			case 1:
				b[place] += byte(pick(rnd, 1, 255, 128))
			case 2:
				b = slices.Delete(b, place, min(place+rnd.Intn(3), len(b)))
			case 3:
				b = slices.Insert(b, place, pick(rnd, []byte{0}, []byte{128}, []byte{255, 255}, []byte{1, 2, 3})...)
			}
		}
		faults[decodesAsModel(t, b).Code]++
	}
	if faults[0] < 3000 || faults[120] < 3000 {
		t.Errorf("faults: %v", faults)
	}
	for range 10000 { // with what leads on again and again
		b := little()[:4+rnd.Intn(12)]
		for range rnd.Intn(60) {
			b = append(b, byte(pick(rnd, 0, 0, 1, 1, 2, 3, 5, 28, 128, 255, rnd.Intn(256))))
		}
		decodesAsModel(t, b)
	}
}

func TestP12_2_ModulesComeBack(t *testing.T) {
	rnd := rand.New(rand.NewSource(3))
	for range 4000 {
		m := someModule(rnd)
		b, code := module.Encode(m)
		if code != 0 {
			continue
		}
		got, fault := module.Decode(b)
		if !same(got, m) || fault != (api.Fault{}) {
			t.Fatalf("%v comes back as %v, %v", m, got, fault)
		}
		if again, code := module.Encode(got); !slices.Equal(again, b) || code != 0 {
			t.Fatalf("%v comes back as %v, %d", b, again, code)
		}
	}
}

func TestP12_2_BytesComeBack(t *testing.T) {
	rnd := rand.New(rand.NewSource(4))
	back := 0
	for range 8000 {
		b, _ := modelEncode(someModule(rnd))
		if len(b) == 0 {
			continue
		}
		// No two bytes' beginnings make the same module, so that others of them come back as themselves, too.
		b[rnd.Intn(len(b))] ^= 1 << rnd.Intn(8)
		m, fault := module.Decode(b)
		if fault != (api.Fault{}) {
			continue
		}
		back++
		if again, code := module.Encode(m); !slices.Equal(again, b) || code != 0 {
			t.Fatalf("%v comes back as %v, %d", b, again, code)
		}
	}
	if back < 2000 {
		t.Errorf("only %d modules", back)
	}
}

func TestP12_3_BeginningsAndMore(t *testing.T) {
	rnd := rand.New(rand.NewSource(5))
	list := []api.Module{least(), rich(), long(4095)}
	for range 100 {
		list = append(list, someModule(rnd))
	}
	for _, m := range list {
		b, code := module.Encode(m)
		if code != 0 {
			continue
		}
		for n := range b {
			if got, fault := module.Decode(b[:n]); !same(got, api.Module{}) || fault != at(n) {
				t.Fatalf("Decode(%v) = %v, %v, not ErrModule at %d", b[:n], got, fault, n)
			}
		}
		for c := range 256 {
			if got, fault := module.Decode(append(b[:len(b):len(b)], byte(c))); len(b) < 4096 && (!same(got, api.Module{}) || fault != at(len(b))) {
				t.Fatalf("Decode(%v and %d) = %v, %v, not ErrModule at %d", b, c, got, fault, len(b))
			}
		}
	}
}

func TestP12_4_DecodeKeepsNothing(t *testing.T) {
	rnd := rand.New(rand.NewSource(6))
	for range 1000 {
		m := someModule(rnd)
		b, code := modelEncode(m)
		if code != 0 {
			continue
		}
		given := append(slices.Clone(b), 77, 78)
		got, _ := module.Decode(given[:len(b)])
		if !slices.Equal(given, append(slices.Clone(b), 77, 78)) {
			t.Fatal("Decode changes its bytes, or those behind")
		}
		other, _ := module.Decode(given[:len(b)])
		spoil(given, 99)
		if !same(got, m) {
			t.Fatal("bytes that are written over change a module")
		}
		spoilModule(got)
		if !same(other, m) {
			t.Fatal("two answers share memory")
		}
	}
	given := little()
	got, _ := module.Decode(append(given[:14:14], 27))
	spoilModule(got)
	if !slices.Equal(given, little()) {
		t.Error("a module that is written over changes the bytes")
	}
}

func TestP12_4_ListsOfAModuleShareNothing(t *testing.T) {
	rnd := rand.New(rand.NewSource(7))
	for range 600 {
		m := someModule(rnd)
		b, code := modelEncode(m)
		if code != 0 {
			continue
		}
		got, _ := module.Decode(b)
		// What is appended to one list is no other one's.
		spoil(got.Data[len(got.Data):], 99)
		spoil(got.Funcs[len(got.Funcs):], fn(9, 9, 9))
		for _, f := range got.Funcs {
			spoil(f.Code[len(f.Code):], ins(99, 99))
		}
		if !same(got, m) {
			t.Fatalf("behind lists to which was appended: %v, not %v", got, m)
		}
		for i := range got.Funcs {
			spoil(got.Funcs[i].Code, ins(99, 99))
			for k, f := range got.Funcs[i+1:] {
				if !sameFunc(f, m.Funcs[i+1+k]) {
					t.Fatal("two functions share their code")
				}
			}
		}
	}
}

func TestP12_4_EncodeKeepsNothing(t *testing.T) {
	rnd := rand.New(rand.NewSource(8))
	for range 1000 {
		m := someModule(rnd)
		if rnd.Intn(4) == 0 {
			harm(rnd, &m)
		}
		before := copied(m)
		m.Data = append(m.Data, 77)[:len(m.Data)]
		m.Funcs = append(m.Funcs, fn(7, 7, 7))[:len(m.Funcs)]
		for i, f := range m.Funcs {
			m.Funcs[i].Code = append(f.Code, ins(77, 77))[:len(f.Code)]
		}
		b, code := module.Encode(m)
		if !same(m, before) || m.Data[:len(m.Data)+1][len(m.Data)] != 77 || !sameFunc(m.Funcs[:len(m.Funcs)+1][len(m.Funcs)], fn(7, 7, 7)) {
			t.Fatal("Encode changes its module")
		}
		for _, f := range m.Funcs {
			if f.Code[:len(f.Code)+1][len(f.Code)] != ins(77, 77) {
				t.Fatal("Encode changes what is behind a function's code")
			}
		}
		want, _ := modelEncode(before)
		other, _ := module.Encode(m)
		spoilModule(m)
		if code == 0 && !slices.Equal(b, want) {
			t.Fatal("a module that is written over changes the bytes")
		}
		spoil(b, 99)
		if !slices.Equal(other, want) {
			t.Fatal("two answers share memory")
		}
	}
	m := mod(4, []byte{1, 2, 3, 4}, fn(0, 0, 0, ins(ret, 0)))
	b, _ := module.Encode(m)
	spoil(b, 99)
	if !same(m, mod(4, []byte{1, 2, 3, 4}, fn(0, 0, 0, ins(ret, 0)))) {
		t.Error("bytes that are written over change the module")
	}
}
