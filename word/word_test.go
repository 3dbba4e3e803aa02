package word_test

import (
	"math"
	"testing"

	"thole/api"
	"thole/word"
)

const most = api.MaxCount

// ends are counts, and what lies beside them: both ends of what an argument may be, the turns of a word's parts, and where a float begins to round.
var ends = []int{
	math.MinInt, math.MinInt + 1, math.MinInt + most, -1<<53 - 1, -1 << 53, -1 << 48, -1<<32 - 1, -1 << 32, math.MinInt32,
	-1<<16 - 1, -1 << 16, -most - 1, -most, -most + 1, -500, -2, -1,
	0, 1, 2, 3, 7, 500, 512, most - 1, most, most + 1, 1023, 1024, 1<<16 - 1, 1 << 16, 1<<16 + 1, 1<<16 + most,
	math.MaxInt32, 1 << 32, 1<<32 + 1, 1 << 48, 1<<48 + 1, 1<<53 - 1, 1 << 53, 1<<53 + 1,
	math.MaxInt - most, math.MaxInt - 1, math.MaxInt,
}

// none are numbers that are no words: a part of each is too great, or they are below 0.
var none = []int64{
	-1, -2, -most, -1 << 16, -1<<16 + 1, -1 << 32, -131075, math.MinInt64, math.MinInt64 + 1, math.MinInt64 + 131075,
	most + 1, 1024, 1<<15 + 1, 1<<16 - 1, 2<<16 + most + 1, 3<<16 - 1, most<<16 + most + 1, most<<16 + 1<<16 - 1,
	(most + 1) << 16, (most+1)<<16 + 5, (most+1)<<16 + most, 1024 << 16, 1 << 31, 1 << 32, 1<<32 + 3, 1<<32 + 131075, 1 << 48, 1<<48 + 131075,
	1 << 53, 1<<53 + 1, 1 << 62, 1<<62 + 131075, math.MaxInt64 - 1<<16 + 1, math.MaxInt64 - 1, math.MaxInt64,
}

// count tells whether n is one, by other means than floats.
func count(n int) bool { return n >= 0 && n <= most }

// adds tells whether a count and n are one together, by no sum that may wrap round.
func adds(n, more int) bool { return more >= -n && more <= most-n }

// pack is the word of two counts.
func pack(t *testing.T, r, w int) int64 {
	t.Helper()
	v, err := word.Pack(r, w)
	if err != nil {
		t.Fatalf("Pack(%d, %d): %v", r, w, err)
	}
	return v
}

// more is to come to the word of two counts.
func more(t *testing.T, v int64, r, w int, wantR, wantW int) int64 {
	t.Helper()
	want := int64(wantR)*65536 + int64(wantW)
	if x, err := word.More(v, r, w); x != want || err != nil {
		t.Fatalf("More(%d, %d, %d) = %d, %v; want %d, nil", v, r, w, x, err, want)
	}
	return want
}

// has tells a fault if v isn't a word of these counts.
func has(t *testing.T, v int64, r, w int) {
	t.Helper()
	if !word.May(v) || word.Readers(v) != r || word.Writes(v) != w {
		t.Fatalf("%d: May %v, Readers %d, Writes %d; want true, %d, %d", v, word.May(v), word.Readers(v), word.Writes(v), r, w)
	}
}

// P4.1
func TestPack(t *testing.T) {
	for _, c := range []struct {
		r, w int
		want int64
	}{
		{0, 0, 0},
		{0, 1, 1},
		{1, 0, 65536},
		{1, 1, 65537},
		{2, 3, 131075},
		{3, 2, 196610},
		{0, most, 1000},
		{most, 0, 65536000},
		{most, most, 65537000},
		{999, 1, 65470465},
	} {
		if v, err := word.Pack(c.r, c.w); v != c.want || err != nil {
			t.Errorf("Pack(%d, %d) = %d, %v; want %d, nil", c.r, c.w, v, err, c.want)
		}
	}
}

// P4.1 and P4.4: of all pairs of counts: the word is as the chapter has it, and has these counts.
func TestPackOfAllPairs(t *testing.T) {
	for r := range most + 1 {
		for w := range most + 1 {
			v, err := word.Pack(r, w)
			if v != int64(r*65536+w) || err != nil {
				t.Fatalf("Pack(%d, %d) = %d, %v; want %d, nil", r, w, v, err, r*65536+w)
			}
			if !word.May(v) || word.Readers(v) != r || word.Writes(v) != w {
				has(t, v, r, w)
			}
		}
	}
}

// P4.1: either may be at fault, and both; P1 at the ends of what an argument may be.
func TestPackOfWrong(t *testing.T) {
	for _, r := range ends {
		for _, w := range ends {
			v, err := word.Pack(r, w)
			if count(r) && count(w) {
				if v != int64(r*65536+w) || err != nil {
					t.Errorf("Pack(%d, %d) = %d, %v; want %d, nil", r, w, v, err, r*65536+w)
				}
			} else if v != 0 || err != api.ErrArg {
				t.Errorf("Pack(%d, %d) = %d, %v; want 0, ErrArg", r, w, v, err)
			}
		}
	}
}

// P4.1: what is no word has no counts.
func TestNoWords(t *testing.T) {
	for _, v := range none {
		if word.May(v) || word.Readers(v) != 0 || word.Writes(v) != 0 {
			t.Errorf("%d: May %v, Readers %d, Writes %d; want false, 0, 0", v, word.May(v), word.Readers(v), word.Writes(v))
		}
	}
}

// P4.1: of all numbers from below 0 to behind the last word, those are words whose parts are counts.
func TestMayOfAll(t *testing.T) {
	words := 0
	for r := -3; r <= most+30; r++ {
		for w := range 65536 {
			v := int64(r*65536 + w)
			is := word.May(v)
			if is != (count(r) && count(w)) {
				t.Fatalf("May(%d) = %v", v, is)
			}
			if is {
				words++
			}
		}
	}
	if words != (most+1)*(most+1) {
		t.Errorf("there are %d words, want %d", words, (most+1)*(most+1))
	}
}

// P4.2
func TestMore(t *testing.T) {
	for _, c := range []struct{ r, w, moreR, moreW, wantR, wantW int }{
		{0, 0, 0, 0, 0, 0},
		{0, 0, 1, 0, 1, 0},
		{0, 0, 0, 1, 0, 1},
		{2, 3, 4, 5, 6, 8},
		{2, 3, -2, -3, 0, 0},
		{2, 3, -1, 7, 1, 10},
		{2, 3, 7, -1, 9, 2},
		{5, 6, 0, 0, 5, 6},
		{0, 0, most, most, most, most},
		{most, most, -most, -most, 0, 0},
		{most, 0, -most, most, 0, most},
		{0, most, most, -most, most, 0},
		{most, most, 0, 0, most, most},
		{most - 1, 1, 1, -1, most, 0},
	} {
		more(t, pack(t, c.r, c.w), c.moreR, c.moreW, c.wantR, c.wantW)
	}
}

// P4.2: what is no word is told ahead of what is too much.
func TestMoreOfNoWord(t *testing.T) {
	for _, v := range none {
		for _, r := range ends {
			for _, w := range []int{0, r, 1, -1, most, -most, most + 1, math.MaxInt, math.MinInt} {
				if x, err := word.More(v, r, w); x != 0 || err != api.ErrArg {
					t.Fatalf("More(%d, %d, %d) = %d, %v; want 0, ErrArg", v, r, w, x, err)
				}
			}
		}
	}
}

// P4.2: one alone may come to too much, or to too little, and both; nothing goes from one to the other.
func TestMoreOfTooMuch(t *testing.T) {
	for _, c := range []struct{ r, w, moreR, moreW int }{
		{most, 7, 1, 0},
		{7, most, 0, 1},
		{0, 7, -1, 0},
		{7, 0, 0, -1},
		{1, 0, 0, -65536},
		{1, 0, 0, -1},
		{0, 5, -1, 65536},
		{5, 0, 1, -65536},
		{0, 0, 0, 65536},
		{0, 0, 0, most + 1},
		{0, 0, most + 1, 0},
		{most, most, 1, 1},
		{0, 0, -1, -1},
		{most, 0, 1, -1},
		{0, most, -1, 1},
		{500, 500, 501, 0},
		{500, 500, 0, 501},
		{500, 500, -501, 0},
		{500, 500, 0, -501},
		{most, 0, math.MaxInt, 0},
		{0, most, 0, math.MaxInt},
		{most, most, math.MaxInt, math.MaxInt},
		{0, 0, math.MinInt, 0},
		{0, 0, 0, math.MinInt},
		{1, 1, math.MinInt, math.MinInt},
	} {
		v := pack(t, c.r, c.w)
		if x, err := word.More(v, c.moreR, c.moreW); x != 0 || err != api.ErrLarge {
			t.Errorf("More(%d, %d, %d) = %d, %v; want 0, ErrLarge", v, c.moreR, c.moreW, x, err)
		}
	}
}

// P4.2, of all ends against counts, and P1 at the ends of what an argument may be.
func TestMoreOfAllEnds(t *testing.T) {
	some := []int{0, 1, 2, 500, most - 1, most}
	for _, r := range some {
		for _, w := range some {
			v := pack(t, r, w)
			for _, moreR := range ends {
				for _, moreW := range ends {
					if adds(r, moreR) && adds(w, moreW) {
						more(t, v, moreR, moreW, r+moreR, w+moreW)
					} else if x, err := word.More(v, moreR, moreW); x != 0 || err != api.ErrLarge {
						t.Fatalf("More(%d, %d, %d) = %d, %v; want 0, ErrLarge", v, moreR, moreW, x, err)
					}
				}
			}
		}
	}
}

// P4.2: of all counts with all that is more or less, one part at a time.
func TestMoreOfOnePart(t *testing.T) {
	for n := range most + 1 {
		onlyR, onlyW := pack(t, n, 3), pack(t, 3, n)
		for d := -most - 2; d <= most+2; d++ {
			if adds(n, d) {
				more(t, onlyR, d, 0, n+d, 3)
				more(t, onlyW, 0, d, 3, n+d)
				continue
			}
			if x, err := word.More(onlyR, d, 0); x != 0 || err != api.ErrLarge {
				t.Fatalf("More(%d, %d, 0) = %d, %v; want 0, ErrLarge", onlyR, d, x, err)
			}
			if x, err := word.More(onlyW, 0, d); x != 0 || err != api.ErrLarge {
				t.Fatalf("More(%d, 0, %d) = %d, %v; want 0, ErrLarge", onlyW, d, x, err)
			}
		}
	}
}

// P4.3: what a call answers hangs on its arguments alone, whatever was asked ahead of it.
func TestNothingIsKept(t *testing.T) {
	calls := []func(){
		func() { _, _ = word.Pack(most, most) },
		func() { _, _ = word.Pack(-1, 5) },
		func() { word.Readers(most << 16) },
		func() { word.Writes(-1) },
		func() { word.May(most + 1) },
		func() { _, _ = word.More(most, 9, -9) },
		func() { _, _ = word.More(0, -1, 5) },
		func() { _, _ = word.More(-1, 1, 1) },
	}
	for range 3 {
		for _, call := range calls {
			call()
			if v := pack(t, 2, 3); v != 131075 {
				t.Errorf("Pack(2, 3) = %d, want 131075", v)
			}
			has(t, 131075, 2, 3)
			more(t, 131075, 1, -1, 3, 2)
			if v, err := word.Pack(0, most+1); v != 0 || err != api.ErrArg {
				t.Errorf("Pack(0, 1001) = %d, %v; want 0, ErrArg", v, err)
			}
			if v, err := word.More(131075, -3, 0); v != 0 || err != api.ErrLarge {
				t.Errorf("More(131075, -3, 0) = %d, %v; want 0, ErrLarge", v, err)
			}
			if word.May(-1) || word.Readers(-1) != 0 || word.Writes(1<<16-1) != 0 {
				t.Error("what is no word hangs on an earlier call")
			}
		}
	}
}

// P4.4: more, and less again, is the same.
func TestMoreAndLess(t *testing.T) {
	for r := 0; r <= most; r += 25 {
		for w := 0; w <= most; w += 40 {
			v := pack(t, r, w)
			for _, dr := range []int{-r, -r / 2, 0, (most - r) / 2, most - r} {
				for _, dw := range []int{-w, -w / 2, 0, (most - w) / 2, most - w} {
					x := more(t, v, dr, dw, r+dr, w+dw)
					more(t, x, -dr, -dw, r, w)
				}
			}
		}
	}
}

// P4.4: counts go their own ways: what becomes of one never shows in the other, up all the way and down.
func TestCountsGoTheirOwnWays(t *testing.T) {
	for _, other := range []int{0, 1, 500, most} {
		r, w := pack(t, 0, other), pack(t, other, 0)
		for n := 1; n <= most; n++ {
			r, w = more(t, r, 1, 0, n, other), more(t, w, 0, 1, other, n)
			has(t, r, n, other)
			has(t, w, other, n)
		}
		for n := most - 1; n >= 0; n-- {
			r, w = more(t, r, -1, 0, n, other), more(t, w, 0, -1, other, n)
			has(t, r, n, other)
			has(t, w, other, n)
		}
	}
}

// P4.4, and the promises ahead of it, over a long row of calls, held against two plain numbers.
func TestManyCallsInARow(t *testing.T) {
	seed := uint32(1)
	next := func(n int) int {
		seed = seed*1664525 + 1013904223
		return int(seed>>8) % n
	}
	v, r, w, large := pack(t, 0, 0), 0, 0, 0
	for range 20000 {
		dr, dw := next(801)-400, next(801)-400
		if adds(r, dr) && adds(w, dw) {
			r, w = r+dr, w+dw
			v = more(t, v, dr, dw, r, w)
		} else {
			large++
			if x, err := word.More(v, dr, dw); x != 0 || err != api.ErrLarge {
				t.Fatalf("More(%d, %d, %d) = %d, %v; want 0, ErrLarge", v, dr, dw, x, err)
			}
		}
		has(t, v, r, w)
		if pack(t, r, w) != v {
			t.Fatalf("Pack(%d, %d) = %d, want %d", r, w, pack(t, r, w), v)
		}
	}
	if large < 2000 || large > 18000 {
		t.Errorf("%d of 20000 were too large: the row tells too little", large)
	}
}

// The chapter's example.
func TestExample(t *testing.T) {
	if v, err := word.Pack(2, 3); v != 131075 || err != nil {
		t.Errorf("Pack(2, 3) = %d, %v; want 131075, nil", v, err)
	}
}
