package vm_test

import (
	"math/big"
	"slices"

	"casement/api"
	"casement/vm"
)

// model carries out all that has happened to a machine from its beginning on, function within function; it stops by a
// panic with what there is to tell.
type model struct {
	m       api.Module
	memory  []byte
	fuel    int // how many units are left
	answers []int64
	depth   int
	deepest int
	ran     map[int]int // how often each op went well
}

// history is what has happened to a machine.
type history struct {
	m       api.Module
	events  [][3]int64
	answers []int64
	used    int
}

// after is what there is to tell once so many units are used, if so many are, and the model at this point.
func (h history) after(units int) (told vm.Told, k *model) {
	k = &model{m: h.m, memory: make([]byte, h.m.Mem), fuel: units, answers: h.answers, ran: map[int]int{}}
	copy(k.memory, h.m.Data)
	defer func() {
		switch stop := recover().(type) {
		case nil:
		case vm.Told:
			told = stop
		default:
			panic(stop)
		}
		told.Used = units - k.fuel - h.used
		if told.Kind == 0 && told.Used > 0 {
			told.Kind = 1
		}
	}()
	for _, e := range h.events {
		k.call(0, e[:])
	}
	return told, k
}

// run is what Run is to tell.
func (h *history) run(fuel int) (vm.Told, *model) {
	told, k := h.after(h.used + min(max(fuel, 0), 5000))
	h.used += told.Used
	return told, k
}

// call carries out a function; the numbers it ends with.
func (k *model) call(n int, args []int64) []int64 {
	if k.depth++; k.depth > 16 {
		panic(vm.Told{Kind: 4, Trap: 3})
	}
	k.deepest = max(k.deepest, k.depth)
	f := k.m.Funcs[n]
	locals := append(slices.Clone(args), make([]int64, f.Params+f.Locals-len(args))...)
	var stack []int64
	for at := 0; ; {
		if k.fuel == 0 {
			panic(vm.Told{Kind: 2})
		}
		k.fuel--
		i := f.Code[at]
		at++
		if i.Op == 27 {
			k.ran[27]++
			k.depth--
			return stack
		}
		takes := k.takes(i)
		taken := slices.Clone(stack[len(stack)-takes:])
		stack = stack[:len(stack)-takes]
		switch i.Op {
		case 24:
			at = int(i.N)
		case 25:
			if taken[0] != 0 {
				at = int(i.N)
			}
		case 5:
			stack = append(stack, locals[i.N])
		case 6:
			locals[i.N] = taken[0]
		default:
			stack = append(stack, k.put(i, taken)...)
		}
		k.ran[i.Op]++
	}
}

// takes is how many numbers an instruction takes.
func (k *model) takes(i api.Ins) int {
	switch i.Op {
	case 26:
		return k.m.Funcs[i.N].Params
	case 28:
		return []int{3, 3, 0, 1, 1, 3, 1, 0, 1, 3, 0, 2}[i.N]
	}
	return []int{0, 0, 1, 1, 2, 0, 1, 2, 2, 2, 2, 2, 2, 2, 2, 2, 2, 2, 2, 1, 1, 2, 1, 2, 0, 1, 0, 0, 0, 0}[i.Op]
}

// put are the numbers that an instruction puts, which leads to the next one.
func (k *model) put(i api.Ins, a []int64) []int64 {
	switch i.Op {
	case 0, 2:
		return nil
	case 1:
		return []int64{i.N}
	case 3:
		return []int64{a[0], a[0]}
	case 4:
		return []int64{a[1], a[0]}
	case 19:
		return []int64{modelTruth(a[0] == 0)}
	case 20:
		return []int64{int64(*k.cell(a[0], 0))}
	case 21:
		*k.cell(a[0], 0) = byte(a[1])
		return nil
	case 22, 23:
		return k.eight(i.Op == 23, a)
	case 26:
		return k.call(int(i.N), a)
	case 28:
		if len(k.answers) == 0 {
			panic(vm.Told{Kind: 3, Call: i.N, Args: a})
		}
		v := k.answers[0]
		k.answers = k.answers[1:]
		return []int64{v}
	case 29:
		panic(vm.Told{Kind: 4, Trap: 4})
	}
	return []int64{modelResult(i.Op, a[0], a[1])}
}

// cell is a byte of the memory.
func (k *model) cell(at, more int64) *byte {
	place := new(big.Int).Add(big.NewInt(at), big.NewInt(more))
	if place.Sign() < 0 || place.Cmp(big.NewInt(int64(len(k.memory)))) >= 0 {
		panic(vm.Told{Kind: 4, Trap: 2})
	}
	return &k.memory[place.Int64()]
}

// eight loads or stores eight bytes, the last one first, so that nothing is stored if one isn't there.
func (k *model) eight(store bool, a []int64) []int64 {
	k.cell(a[0], 0)
	var v uint64
	for n := int64(7); n >= 0; n-- {
		c := k.cell(a[0], n)
		if store {
			*c = byte(uint64(a[1]) >> (8 * n))
		}
		v = v<<8 | uint64(*c)
	}
	if store {
		return nil
	}
	return []int64{int64(v)}
}

func modelTruth(holds bool) int64 { return map[bool]int64{true: 1}[holds] }

// modelResult is what an op makes of two numbers, by numbers without bounds.
func modelResult(op int, a, b int64) int64 {
	x, y, z := big.NewInt(a), big.NewInt(b), new(big.Int)
	low := uint(y.Bit(0) | y.Bit(1)<<1 | y.Bit(2)<<2 | y.Bit(3)<<3 | y.Bit(4)<<4 | y.Bit(5)<<5)
	switch op {
	case 7:
		z.Add(x, y)
	case 8:
		z.Sub(x, y)
	case 9:
		z.Mul(x, y)
	case 10, 11:
		if b == 0 {
			panic(vm.Told{Kind: 4, Trap: 1})
		}
		rest := new(big.Int)
		if z.QuoRem(x, y, rest); op == 11 {
			z = rest
		}
	case 12:
		z.And(x, y)
	case 13:
		z.Or(x, y)
	case 14:
		z.Xor(x, y)
	case 15:
		z.Lsh(x, low)
	case 16:
		z.Rsh(x, low)
	case 17:
		z.SetInt64(modelTruth(x.Cmp(y) == 0))
	case 18:
		z.SetInt64(modelTruth(x.Cmp(y) < 0))
	}
	z.And(z, new(big.Int).SetUint64(1<<64-1))
	return int64(z.Uint64())
}
