package module_test

import (
	"math/big"
	"strings"

	"casement/api"
)

// modelHas tells whether an op has a number.
func modelHas(op int) bool {
	return op >= 0 && op < 30 && strings.Contains(" 1 5 6 24 25 26 28 ", " "+big.NewInt(int64(op)).String()+" ")
}

// beyond is 2 to the 64th: no number is told as that much.
var beyond = new(big.Int).Lsh(big.NewInt(1), 64)

// modelReader stops at a byte by a panic with its place.
type modelReader struct {
	b  []byte
	at int
}

type stopped int

func (r *modelReader) take(right func(c int) bool) int {
	if r.at == len(r.b) || !right(int(r.b[r.at])) {
		panic(stopped(r.at))
	}
	r.at++
	return int(r.b[r.at-1])
}

func (r *modelReader) from(least, most int) int {
	return r.take(func(c int) bool { return least <= c && c <= most })
}

// pair tries all second bytes.
func (r *modelReader) pair(least, most int) int {
	right := func(low, high int) bool { return least <= 256*high+low && 256*high+low <= most }
	low := r.take(func(low int) bool {
		for high := range 256 {
			if right(low, high) {
				return true
			}
		}
		return false
	})
	high := r.take(func(high int) bool { return right(low, high) })
	return 256*high + low
}

// number goes on as long as the least number that may still come of the groups isn't too great.
func (r *modelReader) number() int64 {
	sum := new(big.Int)
	for place := 0; ; place++ {
		group := func(c, place int) *big.Int {
			return new(big.Int).Lsh(big.NewInt(int64(c)), uint(7*place))
		}
		c := r.take(func(c int) bool {
			could := new(big.Int).Add(sum, group(c&127, place))
			if c >= 128 {
				could.Add(could, group(1, place+1))
			}
			return could.Cmp(beyond) < 0 && (place == 0 || c > 0)
		})
		sum.Add(sum, group(c&127, place))
		if c < 128 {
			return modelUntold(sum)
		}
	}
}

// modelUntold is the n that is told as a number: 2n, or -2n - 1.
func modelUntold(told *big.Int) int64 {
	half, odd := new(big.Int).DivMod(told, big.NewInt(2), new(big.Int))
	if odd.Sign() != 0 {
		half.Add(half, big.NewInt(1)).Neg(half)
	}
	return half.Int64()
}

func (r *modelReader) module() (m api.Module) {
	for _, c := range []int{67, 83, 77, 1} {
		r.from(c, c)
	}
	m.Mem = r.pair(0, 1024)
	for range r.pair(0, m.Mem) {
		m.Data = append(m.Data, byte(r.from(0, 255)))
	}
	for range r.from(1, 16) {
		var f api.Func
		f.Params = r.from(0, 8)
		f.Results = r.from(0, 1)
		f.Locals = r.from(0, 16-f.Params)
		for range r.pair(1, 400) {
			i := api.Ins{Op: r.from(0, 29)}
			if modelHas(i.Op) {
				i.N = r.number()
			}
			f.Code = append(f.Code, i)
		}
		m.Funcs = append(m.Funcs, f)
	}
	if r.at < len(r.b) {
		panic(stopped(r.at))
	}
	return m
}

// modelDecode is what Decode is to answer.
func modelDecode(b []byte) (m api.Module, fault api.Fault) {
	if len(b) > 4096 {
		return api.Module{}, api.Fault{Code: 2}
	}
	defer func() {
		if at, ok := recover().(stopped); ok {
			m, fault = api.Module{}, api.Fault{Code: 120, At: int(at)}
		}
	}()
	r := modelReader{b: b}
	return r.module(), api.Fault{}
}

// modelNumber is a number's bytes.
func modelNumber(n int64) (b []byte) {
	told := new(big.Int).Lsh(big.NewInt(n), 1)
	if n < 0 {
		told.Neg(told).Sub(told, big.NewInt(1))
	}
	for {
		rest := new(big.Int)
		told.DivMod(told, big.NewInt(128), rest)
		if told.Sign() == 0 {
			return append(b, byte(rest.Int64()))
		}
		b = append(b, byte(128+rest.Int64()))
	}
}

// modelRight tells whether a module has bytes, however many.
func modelRight(m api.Module) bool {
	ok := m.Mem >= 0 && m.Mem <= 1024 && len(m.Data) <= m.Mem && len(m.Funcs) >= 1 && len(m.Funcs) <= 16
	for _, f := range m.Funcs {
		ok = ok && f.Params >= 0 && f.Params <= 8 && (f.Results == 0 || f.Results == 1)
		ok = ok && f.Locals >= 0 && f.Locals <= 16 && f.Params+f.Locals <= 16
		ok = ok && len(f.Code) >= 1 && len(f.Code) <= 400
		for _, i := range f.Code {
			ok = ok && i.Op >= 0 && i.Op < 30 && (i.N == 0 || modelHas(i.Op))
		}
	}
	return ok
}

// modelEncode is what Encode is to answer.
func modelEncode(m api.Module) ([]byte, api.Errno) {
	if !modelRight(m) {
		return nil, 1
	}
	pair := func(n int) []byte { return []byte{byte(n % 256), byte(n / 256)} }
	b := join([]byte{67, 83, 77, 1}, pair(m.Mem), pair(len(m.Data)), m.Data, []byte{byte(len(m.Funcs))})
	for _, f := range m.Funcs {
		b = join(b, []byte{byte(f.Params), byte(f.Results), byte(f.Locals)}, pair(len(f.Code)))
		for _, i := range f.Code {
			b = append(b, byte(i.Op))
			if modelHas(i.Op) {
				b = append(b, modelNumber(i.N)...)
			}
		}
	}
	if len(b) > 4096 {
		return nil, 2
	}
	return b, 0
}
