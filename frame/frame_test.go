package frame_test

import (
	"bytes"
	"slices"
	"testing"

	"casement/api"
	"casement/frame"
)

func TestP20_1_Kinds(t *testing.T) {
	kinds := []int{frame.Attach, frame.Typed, frame.Size, frame.Leave, frame.Order, frame.Shows, frame.Wrong, frame.Bye}
	if !slices.Equal(kinds, []int{1, 2, 3, 4, 5, 6, 7, 8}) {
		t.Errorf("the kinds are %v", kinds)
	}
}

func TestP20_1_EncodeTable(t *testing.T) {
	for _, x := range []struct {
		m frame.Msg
		b []byte
	}{
		{bare(leave), []byte{197, 4, 0, 0, 4}},
		{bare(bye), []byte{197, 8, 0, 0, 8}},
		{frame.Msg{Kind: leave, Text: []byte{}}, []byte{197, 4, 0, 0, 4}},
		{sides(attach, 80, 24), []byte{197, 1, 4, 0, 80, 0, 24, 0, 109}},
		{sides(size, 200, 1), []byte{197, 3, 4, 0, 200, 0, 1, 0, 208}},
		{sides(size, 200, 200), []byte{197, 3, 4, 0, 200, 0, 200, 0, 151}},
		{text(typed, "a"), []byte{197, 2, 1, 0, 97, 100}},
		{text(typed, "\xff\xff\x00"), []byte{197, 2, 3, 0, 255, 255, 0, 3}},
		{text(order, "tab"), []byte{197, 5, 3, 0, 116, 97, 98, 63}},
		{text(shows, "\xc5"), []byte{197, 6, 1, 0, 197, 204}},
		{code(1), []byte{197, 7, 2, 0, 1, 0, 10}},
		{code(255), []byte{197, 7, 2, 0, 255, 0, 8}},
		{code(256), []byte{197, 7, 2, 0, 0, 1, 10}},
		{code(999), []byte{197, 7, 2, 0, 231, 3, 243}},
		{long(typed, 256), join([]byte{197, 2, 0, 1}, bytes.Repeat([]byte("x"), 256), []byte{3})},
		{long(order, 64), join([]byte{197, 5, 64, 0}, bytes.Repeat([]byte("x"), 64), []byte{69})},
		{long(shows, 512), join([]byte{197, 6, 0, 2}, bytes.Repeat([]byte("x"), 512), []byte{8})},
	} {
		if got, code := frame.Encode(x.m); !bytes.Equal(got, x.b) || code != api.OK {
			t.Errorf("Encode(%v) = %v, %d, not %v", x.m, got, code, x.b)
		}
		reads(t, "a frame", x.b, 0, has(x.m))
	}
}

// encodes holds Encode to a frame, or to none.
func encodes(t *testing.T, m frame.Msg, is bool) {
	t.Helper()
	got, code := frame.Encode(m)
	if is && (!bytes.Equal(got, sealed(m)) || code != 0) || !is && (len(got) != 0 || code != 200) {
		t.Fatalf("Encode of kind %d, %d x %d, code %d, %d bytes: %v, %d", m.Kind, m.W, m.H, m.Code, len(m.Text), got, code)
	}
}

func TestP20_1_EncodeSides(t *testing.T) {
	for w := -3; w < 300; w++ {
		for h := -3; h < 300; h++ {
			is := w >= 1 && w <= 200 && h >= 1 && h <= 200
			encodes(t, sides(attach, w, h), is)
			encodes(t, sides(size, w, h), is)
		}
	}
	for _, n := range wrongs() {
		for _, kind := range []int{attach, size} {
			encodes(t, sides(kind, n, 5), false)
			encodes(t, sides(kind, 5, n), false)
			encodes(t, sides(kind, n, n), false)
		}
	}
}

func TestP20_1_EncodeTexts(t *testing.T) {
	for n := range 700 {
		for kind := range 10 {
			encodes(t, long(kind, n), hasLength(kind, n) && kind != attach && kind != size && kind != wrong)
		}
	}
	for _, kind := range []int{typed, order, shows} {
		for _, n := range []int{1 << 16, 1<<16 + 1, 1 << 20} {
			encodes(t, long(kind, n), false)
		}
		for c := range 256 {
			encodes(t, text(kind, string([]byte{byte(c)})), true)
			encodes(t, text(kind, string([]byte{byte(c), 197, byte(c)})), true)
		}
	}
}

func TestP20_1_EncodeCodes(t *testing.T) {
	for n := -300; n < 1<<17; n++ {
		encodes(t, code(n), n >= 1 && n <= 999)
	}
	for _, n := range wrongs() {
		encodes(t, code(n), false)
	}
}

func TestP20_1_EncodeKinds(t *testing.T) {
	for kind := -300; kind < 1000; kind++ {
		for _, m := range []frame.Msg{bare(kind), sides(kind, 1, 1), text(kind, "x"), {Kind: kind, Code: 1}} {
			is := kind == leave || kind == bye
			switch {
			case m.W > 0:
				is = kind == attach || kind == size
			case len(m.Text) > 0:
				is = kind == typed || kind == order || kind == shows
			case m.Code > 0:
				is = kind == wrong
			}
			encodes(t, m, is)
		}
	}
	for _, kind := range wrongs() {
		encodes(t, bare(kind), false)
		encodes(t, sides(kind, 1, 1), false)
		encodes(t, text(kind, "x"), false)
	}
	for kind := 1; kind <= 8; kind++ { // also numbers that have a right kind's bytes at their end
		for _, n := range []int{256, -256, 1 << 16, 1 << 32} {
			encodes(t, bare(kind+n), false)
			encodes(t, sides(kind+n, 1, 1), false)
			encodes(t, text(kind+n, "x"), false)
		}
	}
}

func TestP20_1_WhatAKindDoesntNameIsZero(t *testing.T) {
	for _, m := range []frame.Msg{sides(attach, 9, 9), sides(size, 9, 9), text(typed, "x"), text(order, "x"), text(shows, "x"), code(9), bare(leave), bare(bye)} {
		encodes(t, m, true)
		for _, n := range append(wrongs(), 1, 2, 9, 200, 256) {
			if m.W == 0 {
				w, h := m, m
				w.W, h.H = n, n
				encodes(t, w, false)
				encodes(t, h, false)
			}
			if m.Code == 0 {
				c := m
				c.Code = api.Errno(n)
				encodes(t, c, false)
			}
			if len(m.Text) == 0 {
				b := m
				b.Text = make([]byte, n&511+1)
				encodes(t, b, false)
			}
		}
	}
}

func TestP20_1_ReadTable(t *testing.T) {
	var r frame.Reader
	if r.Waits() != 0 || len(r.Feed(nil)) != 0 || len(r.Feed([]byte{})) != 0 || r.Waits() != 0 {
		t.Error("a Reader's zero value isn't ready")
	}
	left := bare(leave)
	end := sealed(left)
	for _, x := range []struct {
		what  string
		in    []byte
		waits int
		want  []frame.Item
	}{
		{"nothing", nil, 0, nil},
		{"Leave", end, 0, []frame.Item{has(left)}},
		{"two bytes ahead", join([]byte{1, 2}, end), 0, []frame.Item{bad(2), has(left)}},
		{"no kind", []byte{197, 9}, 0, []frame.Item{bad(2)}},
		{"kind 0", []byte{197, 0}, 0, []frame.Item{bad(2)}},
		{"a mark", []byte{197}, 1, nil},
		{"two marks", []byte{197, 197}, 1, []frame.Item{bad(1)}},
		{"a kind", []byte{197, 4}, 2, nil},
		{"three bytes", []byte{197, 4, 0}, 3, nil},
		{"a head", []byte{197, 4, 0, 0}, 4, nil},
		{"a wrong sum", []byte{197, 4, 0, 0, 5}, 0, []frame.Item{bad(5)}},
		{"a wrong sum that is a mark", []byte{197, 4, 0, 0, 197}, 1, []frame.Item{bad(4)}},
		{"a mark in a head", join([]byte{197, 2}, end), 0, []frame.Item{bad(2), has(left)}},
		{"a payload that isn't there", []byte{197, 4, 1}, 0, []frame.Item{bad(3)}},
		{"a greater length", []byte{197, 4, 0, 1}, 0, []frame.Item{bad(4)}},
		{"sides of three bytes", []byte{197, 1, 3}, 0, []frame.Item{bad(3)}},
		{"sides of 260", []byte{197, 1, 4, 1}, 0, []frame.Item{bad(4)}},
		{"sides that are too few", []byte{197, 1, 4, 0, 0, 0, 9, 0}, 8, nil},
		{"sides of 0", join(seal(attach, []byte{0, 0, 9, 0}), end), 0, []frame.Item{bad(9), has(left)}},
		{"sides of 201", join(seal(size, []byte{9, 0, 201, 0}), end), 0, []frame.Item{bad(9), has(left)}},
		{"sides of 257", join(seal(size, []byte{1, 1, 1, 0}), end), 0, []frame.Item{bad(9), has(left)}},
		{"a code of 0", join(seal(wrong, []byte{0, 0}), end), 0, []frame.Item{bad(7), has(left)}},
		{"a code of 999", seal(wrong, []byte{231, 3}), 0, []frame.Item{has(code(999))}},
		{"a code of 1000", join(seal(wrong, []byte{232, 3}), end), 0, []frame.Item{bad(7), has(left)}},
		{"no text, or 256 bytes of it", []byte{197, 2, 0}, 3, nil},
		{"no text", []byte{197, 2, 0, 0}, 0, []frame.Item{bad(4)}},
		{"an order of no text", []byte{197, 5, 0}, 0, []frame.Item{bad(3)}},
		{"an order of 64 bytes", []byte{197, 5, 64, 0}, 4, nil},
		{"an order of 65 bytes", []byte{197, 5, 65}, 0, []frame.Item{bad(3)}},
		{"256 bytes typed", []byte{197, 2, 0, 1}, 4, nil},
		{"257 bytes typed", []byte{197, 2, 1, 1}, 0, []frame.Item{bad(4)}},
		{"512 bytes that are shown", []byte{197, 6, 0, 2}, 4, nil},
		{"513 bytes that are shown", []byte{197, 6, 1, 2}, 0, []frame.Item{bad(4)}},
		{"a frame within a text", sealed(frame.Msg{Kind: typed, Text: end}), 0, []frame.Item{has(frame.Msg{Kind: typed, Text: end})}},
		{"a frame within a text with a wrong sum", join([]byte{197, 2, 5, 0}, end, []byte{0}), 0, []frame.Item{bad(4), has(left), bad(1)}},
		{"bytes between", join(end, []byte{1}, end, end, []byte{2, 3}), 0, []frame.Item{has(left), bad(1), has(left), has(left), bad(2)}},
	} {
		reads(t, x.what, x.in, x.waits, x.want...)
	}
}

func TestP20_1_ANewItemWhereAFeedBegins(t *testing.T) {
	b := begin(t, heads())
	for _, x := range []struct {
		in   []byte
		want []frame.Item
	}{
		{[]byte{1, 2}, []frame.Item{bad(2)}},
		{[]byte{3}, []frame.Item{bad(1)}},
		{nil, nil},
		{[]byte{4, 197}, []frame.Item{bad(1)}},
		{[]byte{9}, []frame.Item{bad(2)}},
		{[]byte{197, 4, 0, 0}, nil},
		{[]byte{4, 1}, []frame.Item{has(bare(leave)), bad(1)}},
		{[]byte{1, 197, 4, 0, 0}, []frame.Item{bad(1)}},
		{nil, nil},
		{[]byte{5, 5, 197, 8, 0, 0, 8, 7, 7}, []frame.Item{bad(6), has(bare(bye)), bad(2)}},
	} {
		if got := b.feed(x.in); told(got) != told(x.want) {
			t.Errorf("Feed(%v) = %s, not %s", x.in, told(got), told(x.want))
		}
	}
}

func TestP20_1_EveryHead(t *testing.T) {
	all := heads()
	for kind := range 256 {
		for low := range 256 {
			if kind > 10 && low > 0 {
				break
			}
			b := begin(t, all)
			b.feed([]byte{197, byte(kind), byte(low)})
			for high := range 256 {
				b := begin(t, all)
				b.feed([]byte{197, byte(kind), byte(low), byte(high)})
			}
		}
	}
	for first := range 256 {
		for second := range 256 {
			b := begin(t, all)
			b.feed([]byte{byte(first)})
			b.feed([]byte{byte(second)})
		}
	}
}

func TestP20_1_EveryByteOfAFrameChanged(t *testing.T) {
	all := heads()
	for _, m := range []frame.Msg{sides(attach, 80, 24), sides(size, 1, 200), text(typed, "ab"), bare(leave), text(order, "tab"), text(shows, "\xc5\x04\x00\x00\x04"), code(700), bare(bye)} {
		for i := range sealed(m) {
			for c := range 256 {
				in := sealed(m)
				in[i] = byte(c)
				b := begin(t, all)
				b.feed(in)
				b.feed(bytes.Repeat([]byte{1}, 600))
			}
		}
	}
}

func TestP20_1_SidesAndCodesThatAreRead(t *testing.T) {
	all := heads()
	for n := range 1 << 16 {
		two := []byte{byte(n), byte(n >> 8)}
		for _, in := range [][]byte{seal(attach, join(two, []byte{7, 0})), seal(size, join([]byte{7, 0}, two)), seal(wrong, two)} {
			b := begin(t, all)
			items := b.feed(in)
			most := 200
			if in[1] == wrong {
				most = 999
			}
			if is := len(items) == 1 && items[0].Msg.Kind == int(in[1]); is != (n >= 1 && n <= most) {
				t.Fatalf("Feed(%v) = %s", in, told(items))
			}
		}
	}
}

func TestP20_1_Screen(t *testing.T) {
	for _, b := range [][]byte{nil, {}} {
		if got := frame.Screen(b); len(got) != 0 {
			t.Errorf("Screen of nothing = %v", got)
		}
	}
	all := make([]byte, 5000)
	for i := range all {
		all[i] = byte(i * 7 / 3)
	}
	for n := 1; n < len(all); n++ {
		var want []byte
		for from := 0; from < n; from += 512 {
			want = append(want, sealed(frame.Msg{Kind: shows, Text: all[from:min(n, from+512)]})...)
		}
		got := frame.Screen(all[:n])
		if !bytes.Equal(got, want) {
			t.Fatalf("Screen of %d bytes has %d bytes, not %d", n, len(got), len(want))
		}
		if n%97 != 0 && n%512 > 1 {
			continue
		}
		var r frame.Reader
		var shown []byte
		for _, item := range r.Feed(got) {
			shown = append(shown, item.Msg.Text...)
			if item.Bad != 0 || item.Msg.Kind != shows {
				t.Fatalf("Screen of %d bytes is read as %s", n, told([]frame.Item{item}))
			}
		}
		if !bytes.Equal(shown, all[:n]) || r.Waits() != 0 {
			t.Fatalf("Screen of %d bytes shows %d of them", n, len(shown))
		}
	}
}
