package esc

import (
	"strconv"

	"casement/api"
)

// Csi is the bytes of a control sequence.
func Csi(priv byte, params []int, final byte) []byte {
	b := []byte{start, '['}
	if priv != 0 {
		b = append(b, priv)
	}
	for i, n := range params[:min(len(params), api.MaxParams)] {
		if i > 0 {
			b = append(b, ';')
		}
		if n >= 0 {
			b = strconv.AppendInt(b, int64(min(n, api.MaxNum)), 10)
		}
	}
	return append(b, final)
}
