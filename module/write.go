package module

import (
	"slices"

	"casement/api"
)

// within tells whether a number is in its bounds.
func within(n, least, most int) bool { return n >= least && n <= most }

// right tells whether some bytes, however many, are this module.
func right(m api.Module) bool {
	wrong := func(f api.Func) bool { return !rightFunc(f) }
	return within(m.Mem, 0, api.MaxMem) && len(m.Data) <= m.Mem &&
		within(len(m.Funcs), 1, api.MaxFuncs) && !slices.ContainsFunc(m.Funcs, wrong)
}

// rightFunc tells whether a function is one that bytes tell.
func rightFunc(f api.Func) bool {
	wrong := func(i api.Ins) bool { return !rightIns(i) }
	return within(f.Params, 0, maxParams) && within(f.Results, 0, maxResults) &&
		within(f.Locals, 0, api.MaxLocals-f.Params) &&
		within(len(f.Code), 1, api.MaxIns) && !slices.ContainsFunc(f.Code, wrong)
}

// rightIns tells whether an instruction is one that bytes tell.
func rightIns(i api.Ins) bool { return within(i.Op, Nop, Trap) && (i.N == 0 || Has(i.Op)) }

// write is a right module's bytes, however many.
func write(m api.Module) []byte {
	b := []byte(head)
	b = appendTwo(b, m.Mem)
	b = appendTwo(b, len(m.Data))
	b = append(b, m.Data...)
	b = append(b, byte(len(m.Funcs)))
	for _, f := range m.Funcs {
		b = append(b, byte(f.Params), byte(f.Results), byte(f.Locals))
		b = appendTwo(b, len(f.Code))
		for _, i := range f.Code {
			b = appendIns(b, i)
		}
	}
	return b
}

// appendTwo puts a number of two bytes behind bytes.
func appendTwo(b []byte, n int) []byte { return append(b, byte(n), byte(n>>8)) }

// appendIns puts an instruction behind bytes.
func appendIns(b []byte, i api.Ins) []byte {
	b = append(b, byte(i.Op))
	if Has(i.Op) {
		b = appendNumber(b, i.N)
	}
	return b
}
