package check

import (
	"casement/api"
	"casement/module"
)

// hostTakes is how many numbers each host call takes.
var hostTakes = [...]int{
	3, // draw
	3, // style
	0, // clear
	1, // subscribe
	1, // unsubscribe
	3, // write
	1, // focus
	0, // open
	1, // close
	3, // look
	0, // time
	2, // log
}

// below tells whether a number is from 0 to less than a bound.
func below(n int64, bound int) bool { return n >= 0 && n < int64(bound) }

// points tells whether there is what an instruction's number names: a local, a place, a function or a host call.
func points(m api.Module, f int, i api.Ins) bool {
	switch i.Op {
	case module.Get, module.Set:
		return below(i.N, m.Funcs[f].Params+m.Funcs[f].Locals)
	case module.Jump, module.JumpIf:
		return below(i.N, len(m.Funcs[f].Code))
	case module.Call:
		return below(i.N, len(m.Funcs))
	case module.Host:
		return below(i.N, len(hostTakes))
	}
	return true
}

// callEffect is what a call of a function takes and puts.
func callEffect(m api.Module, n int64) (takes, puts int, ok bool) {
	if !below(n, len(m.Funcs)) {
		return 0, 0, false
	}
	return m.Funcs[n].Params, m.Funcs[n].Results, true
}

// hostEffect is what a host call takes and puts.
func hostEffect(n int64) (takes, puts int, ok bool) {
	if !below(n, len(hostTakes)) {
		return 0, 0, false
	}
	return hostTakes[n], 1, true
}

// plainEffect is what an instruction takes and puts whose op alone tells it.
func plainEffect(op int) (takes, puts int, ok bool) {
	switch op {
	case module.Nop, module.Jump, module.Trap:
		return 0, 0, true
	case module.Push, module.Get:
		return 0, 1, true
	case module.Drop, module.Set, module.JumpIf:
		return 1, 0, true
	case module.Dup:
		return 1, 2, true
	case module.Swap:
		return 2, 2, true
	case module.Not, module.Load, module.Load8:
		return 1, 1, true
	case module.Store, module.Store8:
		return 2, 0, true
	}
	if op >= module.Add && op <= module.Lt {
		return 2, 1, true
	}
	return 0, 0, false
}
