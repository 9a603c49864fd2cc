package frame_test

import (
	"bytes"
	"math/rand"
	"slices"
	"testing"

	"casement/frame"
)

// parted cuts bytes into pieces of few bytes, or of many.
func parted(rnd *rand.Rand, b []byte) (list [][]byte) {
	most := pick(rnd, 1, 2, 5, 40, 700)
	for len(b) > 0 {
		n := min(rnd.Intn(most+1), len(b))
		list = append(list, b[:n])
		b = b[n:]
	}
	return list
}

// all is what items say together: messages, and how many bytes were passed over.
func all(items []frame.Item) (msgs []frame.Item, passed int) {
	for _, item := range items {
		passed += item.Bad
		if item.Bad == 0 {
			msgs = append(msgs, item)
		}
	}
	return msgs, passed
}

func TestP20_1_AnyBytesInAnyPieces(t *testing.T) {
	heads := heads()
	read, passed := 0, 0
	for seed := range int64(1500) {
		rnd := rand.New(rand.NewSource(seed))
		b := begin(t, heads)
		for _, piece := range parted(rnd, someStream(rnd, 1+rnd.Intn(8))) {
			msgs, n := all(b.feed(piece))
			read, passed = read+len(msgs), passed+n
		}
	}
	if read < 1000 || passed < 1000 {
		t.Errorf("only %d messages, and %d bytes that are passed over", read, passed)
	}
}

func TestP20_1_LongTextsOfBytesThatBegin(t *testing.T) {
	heads := heads()
	for _, part := range [][]byte{{197}, {197, 6, 0, 2}, {197, 6, 255, 1}, {197, 2, 0, 1, 197}, {197, 4, 0, 0}, {197, 5}, {0}, {197, 1, 4, 0, 1, 0, 1, 0}} {
		b := begin(t, heads)
		in := bytes.Repeat(part, 900)
		b.feed(in[:len(in)/2])
		b.feed(in[len(in)/2:])
	}
	var r frame.Reader
	_, passed := all(r.Feed(bytes.Repeat([]byte{197, 6, 255, 1}, 1<<18)))
	if passed+r.Waits() != 1<<20 || r.Waits() > 516 {
		t.Errorf("%d bytes are passed over, %d wait", passed, r.Waits())
	}
}

func TestP20_2_HoweverBytesAreParted(t *testing.T) {
	for seed := range int64(2000) {
		rnd := rand.New(rand.NewSource(seed))
		stream := someStream(rnd, 1+rnd.Intn(12))
		var once frame.Reader
		msgs, passed := all(once.Feed(stream))
		for range 4 {
			var r frame.Reader
			var items []frame.Item
			for _, piece := range parted(rnd, stream) {
				items = append(items, r.Feed(piece)...)
				if w := r.Waits(); w < 0 || w > 516 {
					t.Fatalf("seed %d: %d bytes wait", seed, w)
				}
			}
			got, n := all(items)
			if told(got) != told(msgs) || n != passed || r.Waits() != once.Waits() {
				t.Fatalf("seed %d: %v in pieces: %s, %d passed over, %d wait; at once %s, %d, %d", seed, stream, told(got), n, r.Waits(), told(msgs), passed, once.Waits())
			}
		}
	}
}

func TestP20_2_EveryCutOfShortBytes(t *testing.T) {
	heads := heads()
	end := sealed(bare(leave))
	for _, in := range [][]byte{
		join(end, end),
		join([]byte{1}, end, []byte{2}),
		join([]byte{197, 2, 5, 0}, end, []byte{0}),
		join([]byte{197, 1, 4, 0}, end, []byte{0}),
		join([]byte{197, 197, 4}, end),
		join([]byte{197, 7, 2, 0}, end),
		join(sealed(code(300)), []byte{197}),
		sealed(sides(attach, 10, 4)),
	} {
		for cuts := range 1 << (len(in) - 1) {
			b := begin(t, heads)
			from := 0
			for i := range in {
				if i == len(in)-1 || cuts>>i&1 == 1 {
					b.feed(in[from : i+1])
					from = i + 1
				}
			}
		}
	}
}

func TestP20_3_EveryMessageIsReadBack(t *testing.T) {
	var r frame.Reader
	back := func(m frame.Msg) {
		t.Helper()
		b, code := frame.Encode(m)
		if items := r.Feed(b); code != 0 || told(items) != told([]frame.Item{has(m)}) || r.Waits() != 0 {
			t.Fatalf("%s is read back as %s, %d wait", told([]frame.Item{has(m)}), told(items), r.Waits())
		}
	}
	for w := 1; w <= 200; w++ {
		for h := 1; h <= 200; h++ {
			back(sides(attach, w, h))
			back(sides(size, w, h))
		}
	}
	for n := 1; n <= 999; n++ {
		back(code(n))
	}
	rnd := rand.New(rand.NewSource(3))
	for kind, most := range map[int]int{typed: 256, order: 64, shows: 512} {
		for n := 1; n <= most; n++ {
			back(frame.Msg{Kind: kind, Text: someText(rnd, n)})
		}
	}
	back(bare(leave))
	back(bare(bye))
}

func TestP20_3_WhateverStoodAhead(t *testing.T) {
	through := 0
	for seed := range int64(3000) {
		rnd := rand.New(rand.NewSource(seed))
		var r frame.Reader
		for _, piece := range parted(rnd, someStream(rnd, rnd.Intn(4))) {
			r.Feed(piece)
		}
		if r.Waits() > 0 {
			continue
		}
		through++
		var frames []byte
		var want []frame.Item
		for range 1 + rnd.Intn(8) {
			m := someMsg(rnd)
			b, _ := frame.Encode(m)
			frames, want = append(frames, b...), append(want, has(m))
		}
		var got []frame.Item
		for _, piece := range parted(rnd, frames) {
			got = append(got, r.Feed(piece)...)
		}
		if told(got) != told(want) || r.Waits() != 0 {
			t.Fatalf("seed %d: %s, %d wait; not %s", seed, told(got), r.Waits(), told(want))
		}
	}
	if through < 1000 {
		t.Errorf("only %d streams were read through", through)
	}
}

func TestP20_4_EncodeAndScreenAreNewMemory(t *testing.T) {
	for _, kind := range []int{typed, order, shows} {
		room := []byte("tab!0123456789")
		m := frame.Msg{Kind: kind, Text: room[:4]}
		first, _ := frame.Encode(m)
		second, _ := frame.Encode(m)
		want := sealed(text(kind, "tab!"))
		spoil(first, 9)
		if string(room) != "tab!0123456789" || !bytes.Equal(second, want) {
			t.Errorf("behind an Encode whose answer was written over: %q, %v", room, second)
		}
		spoil(room, 7)
		if !bytes.Equal(second, want) {
			t.Errorf("behind a text that was written over: %v", second)
		}
	}
	room := bytes.Repeat([]byte("shows"), 300)
	want := frame.Screen(slices.Clone(room[:1400]))
	first, second := frame.Screen(room[:1400]), frame.Screen(room[:1400])
	spoil(first, 9)
	if !bytes.Equal(room, bytes.Repeat([]byte("shows"), 300)) || !bytes.Equal(second, want) {
		t.Error("behind a Screen whose answer was written over: others are, too")
	}
	spoil(room, 7)
	if !bytes.Equal(second, want) {
		t.Error("behind bytes that were written over: the Screen is, too")
	}
}

func TestP20_4_ReaderKeepsNothing(t *testing.T) {
	heads := heads()
	for seed := range int64(300) {
		rnd := rand.New(rand.NewSource(seed))
		b := begin(t, heads)
		var kept []frame.Item
		was := ""
		for _, piece := range parted(rnd, someStream(rnd, 12)) {
			room := append(slices.Clone(piece), "0123456789"...)
			items := b.feed(room[:len(piece)])
			if !bytes.Equal(room[:len(piece)], piece) || string(room[len(piece):]) != "0123456789" {
				t.Fatalf("seed %d: Feed(%v) leaves %v", seed, piece, room)
			}
			spoil(room, 197)
			if told(kept) != was {
				t.Fatalf("seed %d: what was answered has become %s, not %s", seed, told(kept), was)
			}
			kept, was = items, told(items)
			if rnd.Intn(2) == 0 {
				for _, item := range items {
					spoil(item.Msg.Text, 197)
				}
				spoil(items, frame.Item{Bad: 99})
				kept, was = nil, ""
			}
		}
	}
}

func TestP20_4_TextsOfOneAnswerAreApart(t *testing.T) {
	rnd := rand.New(rand.NewSource(5))
	for range 200 {
		var frames []byte
		for range 6 {
			frames = append(frames, sealed(someMsg(rnd))...)
		}
		var r, other frame.Reader
		items, want := r.Feed(frames), other.Feed(frames)
		for i := range items {
			spoil(items[i].Msg.Text, 9)
			if told(items[i+1:]) != told(want[i+1:]) {
				t.Fatalf("behind the text of item %d that was written over: %s, not %s", i, told(items), told(want))
			}
		}
		if len(want) != 6 {
			t.Fatalf("%d items: %s", len(want), told(want))
		}
	}
}

func TestP20_4_ReadersAreApart(t *testing.T) {
	rnd := rand.New(rand.NewSource(6))
	heads := heads()
	for range 200 {
		x, y := begin(t, heads), begin(t, heads)
		x.feed(someStream(rnd, 3))
		z := &both{t: t, r: x.r, m: model{heads: heads, all: slices.Clone(x.m.all), told: x.m.told}}
		for range 5 {
			x.feed(somePiece(rnd))
			y.feed(somePiece(rnd))
			z.feed(somePiece(rnd))
		}
	}
}
