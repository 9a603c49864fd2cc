package vm

// byteBits is how many bits a byte of the memory has.
const byteBits = 8

// part is n bytes of the memory itself, if all are there.
func (x *Machine) part(at, n int64) ([]byte, bool) {
	size := int64(len(x.memory))
	// at and n together might be too great for a number.
	if at < 0 || at > size || n < 0 || n > size-at {
		return nil, false
	}
	return x.memory[at : at+n], true
}

// load puts n bytes of the memory onto the stack, as one number.
func (x *Machine) load(f *frame, n int64) (trap int) {
	b, ok := x.part(f.pop(), n)
	if !ok {
		return Bounds
	}
	var v int64
	for i, c := range b {
		v |= int64(c) << (byteBits * i)
	}
	f.push(v)
	return noTrap
}

// store makes n bytes of the memory the last ones of a number.
func (x *Machine) store(f *frame, n int64) (trap int) {
	v, at := f.pop(), f.pop()
	b, ok := x.part(at, n)
	if !ok {
		return Bounds
	}
	for i := range b {
		b[i] = byte(v >> (byteBits * i))
	}
	return noTrap
}
