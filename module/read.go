package module

import "casement/api"

// reader goes through bytes, up to the first one with which no module goes on. It stays ahead of that one, and whatever
// is read from there on are bytes of 0, so that all lists come to their ends.
type reader struct {
	rest   []byte // what isn't passed over yet
	failed bool
}

// next is the next byte, if it may stand here.
func (r *reader) next(may func(c byte) bool) byte {
	if r.failed || len(r.rest) == 0 || !may(r.rest[0]) {
		r.failed = true
		return 0
	}
	c := r.rest[0]
	r.rest = r.rest[1:]
	return c
}

// one reads a number of one byte.
func (r *reader) one(least, most int) int {
	return int(r.next(func(c byte) bool { return int(c) >= least && int(c) <= most }))
}

// two reads a number of two bytes, which may be 0 or 1 at least.
func (r *reader) two(least, most int) int {
	fits := func(n int) bool { return n >= least && n <= most }
	// A greater second byte than 1 makes nothing right that neither 0 nor 1 does.
	low := int(r.next(func(c byte) bool { return fits(int(c)) || fits(int(c)+1<<8) }))
	high := int(r.next(func(c byte) bool { return fits(low + int(c)<<8) }))
	return low + high<<8
}

// number reads a number in groups of bits.
func (r *reader) number() int64 {
	var u uint64
	for place := range groups {
		c := r.next(func(c byte) bool { return mayBe(c, place) })
		u |= uint64(c%more) << (place * groupBits)
		if c < more {
			break
		}
	}
	return unfolded(u)
}

// data reads so many bytes.
func (r *reader) data(n int) []byte {
	d := make([]byte, n)
	for i := range d {
		d[i] = r.next(func(byte) bool { return true })
	}
	return d
}

// module reads a module.
func (r *reader) module() api.Module {
	for i := range len(head) {
		r.next(func(c byte) bool { return c == head[i] })
	}
	m := api.Module{Mem: r.two(0, api.MaxMem)}
	m.Data = r.data(r.two(0, m.Mem))
	for range r.one(1, api.MaxFuncs) {
		m.Funcs = append(m.Funcs, r.function())
	}
	return m
}

// function reads a function.
func (r *reader) function() api.Func {
	f := api.Func{Params: r.one(0, maxParams), Results: r.one(0, maxResults)}
	f.Locals = r.one(0, api.MaxLocals-f.Params)
	for range r.two(1, api.MaxIns) {
		f.Code = append(f.Code, r.instruction())
	}
	return f
}

// instruction reads an instruction.
func (r *reader) instruction() api.Ins {
	i := api.Ins{Op: r.one(Nop, Trap)}
	if Has(i.Op) {
		i.N = r.number()
	}
	return i
}
