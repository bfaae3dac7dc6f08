package shape

import (
	"fmt"
	"math"
	"math/big"
	"slices"
	"testing"

	"agate/api"
)

// dims is a list of numbers, shorter to write.
func dims(l ...int64) []int64 { return l }

// repeat is a list of n times one number.
func repeat(d int64, n int) []int64 { return slices.Repeat(dims(d), n) }

// lists are all lists of up to n of some numbers.
func lists(n int, some ...int64) [][]int64 {
	all := [][]int64{nil}
	for from := 0; len(all[from]) < n; from++ {
		for _, d := range some {
			all = append(all, append(slices.Clone(all[from]), d))
		}
	}
	return all
}

// shapes are those of lists that are shapes.
func shapes(n int, some ...int64) [][]int64 {
	return slices.DeleteFunc(lists(n, some...), func(l []int64) bool {
		_, e := slowSize(l)
		return e != api.OK
	})
}

// slowSize is what the chapter says of a size, reckoned of numbers of any length.
func slowSize(l []int64) (int, api.Errno) {
	if len(l) > 8 || slices.ContainsFunc(l, func(d int64) bool { return d < 0 }) {
		return 0, api.ErrShape
	}
	product := big.NewInt(1)
	for _, d := range l {
		product.Mul(product, big.NewInt(d))
	}
	tooGreat := func(d int64) bool { return d > 65536 }
	if slices.ContainsFunc(l, tooGreat) || product.Cmp(big.NewInt(65536)) > 0 {
		return 0, api.ErrSize
	}
	return int(product.Int64()), api.OK
}

// slowBroadcast is what the chapter says of broadcasting.
func slowBroadcast(a, b []int64) ([]int64, api.Errno) {
	for _, l := range [][]int64{a, b} {
		if _, e := slowSize(l); e != api.OK {
			return nil, e
		}
	}
	for len(a) < len(b) {
		a = append(dims(1), a...)
	}
	for len(b) < len(a) {
		b = append(dims(1), b...)
	}
	var third []int64
	for i := range a {
		if a[i] != b[i] && a[i] != 1 && b[i] != 1 {
			return nil, api.ErrShape
		}
		if a[i] == 1 {
			third = append(third, b[i])
		} else {
			third = append(third, a[i])
		}
	}
	if _, e := slowSize(third); e != api.OK {
		return nil, e
	}
	return third, api.OK
}

// places are a shape's places by their numbers: the last number of a place counts fastest.
func places(l []int64) [][]int64 {
	all := [][]int64{{}}
	for _, d := range l {
		var more [][]int64
		for _, p := range all {
			for n := range d {
				more = append(more, append(slices.Clone(p), n))
			}
		}
		all = more
	}
	return all
}

// rule answers numbers below n, the same each time.
func rule() func(n uint64) uint64 {
	x := uint64(1)
	return func(n uint64) uint64 {
		x = x*6364136223846793005 + 1442695040888963407
		return x >> 33 % n
	}
}

func wantSize(t *testing.T, l []int64, want int, wantE api.Errno) {
	t.Helper()
	if got, e := Size(l); got != want || e != wantE {
		t.Errorf("Size(%v) is %d, %v; want %d, %v", l, got, e, want, wantE)
	}
}

func wantBroadcast(t *testing.T, a, b, want []int64) {
	t.Helper()
	if got, e := Broadcast(a, b); e != api.OK || !slices.Equal(got, want) {
		t.Errorf("Broadcast(%v, %v) is %v, %v; want %v, ok", a, b, got, e, want)
	}
}

func wantBroadcastError(t *testing.T, a, b []int64, want api.Errno) {
	t.Helper()
	if got, e := Broadcast(a, b); e != want || len(got) != 0 {
		t.Errorf("Broadcast(%v, %v) is %v, %v; want none, %v", a, b, got, e, want)
	}
}

func wantPlace(t *testing.T, l []int64, n int, want []int64) {
	t.Helper()
	if got := Place(l, n); !slices.Equal(got, want) {
		t.Errorf("Place(%v, %d) is %v; want %v", l, n, got, want)
	}
	if got := Count(l, want); got != n {
		t.Errorf("Count(%v, %v) is %d; want %d", l, want, got, n)
	}
}

func wantBack(t *testing.T, l, place, want []int64) {
	t.Helper()
	if got := Back(l, place); !slices.Equal(got, want) {
		t.Errorf("Back(%v, %v) is %v; want %v", l, place, got, want)
	}
}

// P5.1, P5.2: the chapter's example.
func TestExample(t *testing.T) {
	wantBroadcast(t, dims(3, 1), dims(4), dims(3, 4))
	wantBack(t, dims(3, 1), dims(2, 3), dims(2, 0))
	wantBack(t, dims(4), dims(2, 3), dims(3))
}

// P5.1
func TestSize(t *testing.T) {
	wantSize(t, nil, 1, api.OK)
	wantSize(t, dims(), 1, api.OK)
	wantSize(t, dims(0), 0, api.OK)
	wantSize(t, dims(1), 1, api.OK)
	wantSize(t, dims(7), 7, api.OK)
	wantSize(t, dims(2, 3, 5), 30, api.OK)
	wantSize(t, dims(2, 0, 5), 0, api.OK)
	for n := range api.MaxRank + 1 {
		wantSize(t, repeat(1, n), 1, api.OK)
		wantSize(t, repeat(3, n), int(math.Pow(3, float64(n))), api.OK)
	}
	for n := 1; n <= api.MaxRank; n++ {
		wantSize(t, repeat(0, n), 0, api.OK)
	}
}

// P5.1: a limit is allowed itself, however it is reached.
func TestGreatestSizes(t *testing.T) {
	for _, l := range [][]int64{
		{65536},
		{1, 65536},
		{65536, 1, 1, 1, 1, 1, 1, 1},
		{2, 32768},
		{256, 256},
		{257, 255},
		{16, 16, 16, 16},
		repeat(4, 8),
		{65535, 1},
		{1, 1, 1, 1, 1, 1, 1, 65536},
	} {
		want := 1
		for _, d := range l {
			want *= int(d)
		}
		wantSize(t, l, want, api.OK)
	}
}

// P5.1: more dimensions than there may be, and such as are below 0, whatever else is wrong.
func TestSizeErrorsOfShape(t *testing.T) {
	for n := api.MaxRank + 1; n < 100; n++ {
		for _, d := range dims(0, 1, 2, 65536, 65537, math.MaxInt64, -1, math.MinInt64) {
			wantSize(t, repeat(d, n), 0, api.ErrShape)
		}
	}
	wantSize(t, make([]int64, api.MaxBytes), 0, api.ErrShape)
	for _, below := range dims(-1, -2, -3, -65536, -65537, math.MinInt32, -1<<32, math.MinInt64, math.MinInt64+1) {
		for n := range api.MaxRank {
			for _, other := range dims(0, 1, 2, 65536, 65537, math.MaxInt64, -1) {
				l := repeat(other, n)
				wantSize(t, append(slices.Clone(l), below), 0, api.ErrShape)
				wantSize(t, append(dims(below), l...), 0, api.ErrShape)
			}
		}
	}
}

// P5.1: a product that is too great, and a dimension that is, beside a 0 too.
func TestSizeErrorsOfSize(t *testing.T) {
	for _, l := range [][]int64{
		{65537},
		{1, 65537},
		{2, 32769},
		{257, 256},
		{65536, 2},
		{2, 65536},
		{65536, 65536},
		append(repeat(4, 7), 5),
		repeat(5, 8),
		repeat(256, 8),
		repeat(65536, 8),
		{1 << 8, 1 << 8, 1 << 8, 1 << 8, 1 << 8, 1 << 8, 1 << 8, 1 << 8},
		{1 << 16, 1 << 16, 1 << 16, 1 << 16},
		{3, 1 << 16, 1 << 16, 1 << 16, 1 << 16},
	} {
		wantSize(t, l, 0, api.ErrSize)
	}
	for _, great := range dims(65537, 65538, 1<<17, 1<<31, math.MaxUint32, 1<<32, 1<<32+1, 1<<62, math.MaxInt64) {
		wantSize(t, dims(great), 0, api.ErrSize)
		wantSize(t, dims(great, great), 0, api.ErrSize)
		for n := 1; n < api.MaxRank; n++ {
			wantSize(t, append(repeat(0, n), great), 0, api.ErrSize)
			wantSize(t, append(dims(great), repeat(0, n)...), 0, api.ErrSize)
		}
	}
}

// P5.1: a 0 makes the size 0 wherever it stands, while each dimension may be.
func TestSizeWithZeroBesideGreatDimensions(t *testing.T) {
	for n := range api.MaxRank {
		for at := range n + 1 {
			for _, d := range dims(2, 256, 257, 65535, 65536) {
				wantSize(t, slices.Insert(repeat(d, n), at, 0), 0, api.OK)
			}
		}
	}
}

// P5.1: all lists of some numbers, at the limits and about them, have the size that the chapter says.
func TestSizeOfManyLists(t *testing.T) {
	try := func(l []int64) {
		want, wantE := slowSize(l)
		wantSize(t, l, want, wantE)
	}
	for _, l := range lists(4, math.MinInt64, -1, 0, 1, 2, 255, 256, 257, 65535, 65536, 65537, 1<<32, math.MaxInt64) {
		try(l)
	}
	for _, l := range lists(9, 0, 1, 4, 5) {
		try(l)
	}
	next := rule()
	for range 100000 {
		l := make([]int64, next(10))
		for i := range l {
			l[i] = int64(next(1<<17) >> next(18))
		}
		try(l)
	}
}

// P5.1
func TestSame(t *testing.T) {
	all := append(lists(3, 0, 1, 2, -1), dims(65536), dims(65537), dims(math.MaxInt64), dims(math.MinInt64), dims(1<<32), repeat(1, 8), repeat(1, 9))
	for i, a := range all {
		for k, b := range all {
			if got := Same(a, slices.Clone(b)); got != (i == k) {
				t.Errorf("Same(%v, %v) is %v", a, b, got)
			}
		}
	}
	if !Same(nil, dims()) || !Same(dims(), nil) || !Same(nil, nil) {
		t.Error("nil and empty aren't the same")
	}
	if Same(dims(1, 3), dims(3)) || Same(dims(3), dims(3, 1)) {
		t.Error("shapes are the same that only broadcast")
	}
}

// P5.1
func TestBroadcast(t *testing.T) {
	wantBroadcast(t, nil, nil, nil)
	wantBroadcast(t, nil, dims(), nil)
	wantBroadcast(t, nil, dims(2, 3), dims(2, 3))
	wantBroadcast(t, dims(2, 3), dims(), dims(2, 3))
	wantBroadcast(t, dims(1), dims(1), dims(1))
	wantBroadcast(t, dims(1), nil, dims(1))
	wantBroadcast(t, dims(5), dims(5), dims(5))
	wantBroadcast(t, dims(5), dims(1), dims(5))
	wantBroadcast(t, dims(1, 1, 1), dims(5), dims(1, 1, 5))
	wantBroadcast(t, dims(8, 1, 6, 1), dims(7, 1, 5), dims(8, 7, 6, 5))
	wantBroadcast(t, dims(2, 1, 3), dims(2, 4, 3), dims(2, 4, 3))
	wantBroadcast(t, repeat(1, 8), repeat(2, 8), repeat(2, 8))
	wantBroadcast(t, repeat(1, 8), dims(9), dims(1, 1, 1, 1, 1, 1, 1, 9))
}

// P5.1: a 0 is a dimension as others are.
func TestBroadcastOfZeros(t *testing.T) {
	wantBroadcast(t, dims(0), nil, dims(0))
	wantBroadcast(t, dims(0), dims(0), dims(0))
	wantBroadcast(t, dims(0), dims(1), dims(0))
	wantBroadcast(t, dims(1, 0), dims(3, 1), dims(3, 0))
	wantBroadcastError(t, dims(0), dims(2), api.ErrShape)
	wantBroadcastError(t, dims(3, 0), dims(0, 1), api.ErrShape)
	wantBroadcast(t, dims(0, 65536, 1), dims(1, 1, 65536), dims(0, 65536, 65536))
}

// P5.1: two that don't broadcast.
func TestBroadcastErrorsOfShape(t *testing.T) {
	wantBroadcastError(t, dims(2), dims(3), api.ErrShape)
	wantBroadcastError(t, dims(2, 3), dims(2), api.ErrShape)
	wantBroadcastError(t, dims(2, 3), dims(3, 2), api.ErrShape)
	wantBroadcastError(t, dims(2, 3), dims(2, 1, 2), api.ErrShape)
	wantBroadcastError(t, dims(4, 5), dims(4, 1, 1, 2), api.ErrShape)
	wantBroadcastError(t, dims(65535), dims(65536), api.ErrShape)
	// This is told ahead of the third one's size.
	wantBroadcastError(t, dims(2, 32768, 1), dims(3, 1, 21845), api.ErrShape)
	wantBroadcastError(t, dims(32768, 1, 2), dims(1, 21845, 3), api.ErrShape)
}

// P5.1: the third one's size.
func TestBroadcastErrorsOfSize(t *testing.T) {
	wantBroadcast(t, dims(256, 1), dims(256), dims(256, 256))
	wantBroadcast(t, dims(65536, 1), dims(1), dims(65536, 1))
	wantBroadcastError(t, dims(256, 1), dims(257), api.ErrSize)
	wantBroadcastError(t, dims(65536, 1), dims(65536), api.ErrSize)
	wantBroadcastError(t, dims(2, 1), dims(65536), api.ErrSize)
	wantBroadcastError(t, dims(5, 1, 5, 1, 5, 1, 5, 1), dims(5, 1, 5, 1, 5, 1, 5), api.ErrSize)
}

// P5.1: what is wrong with the first one is told, then what is with the second one.
func TestBroadcastErrorsInOrder(t *testing.T) {
	bad := []struct {
		l []int64
		e api.Errno
	}{
		{dims(-1), api.ErrShape},
		{repeat(1, 9), api.ErrShape},
		{dims(65537), api.ErrSize},
		{dims(65536, 2), api.ErrSize},
		{dims(0, 65537), api.ErrSize},
	}
	for _, a := range bad {
		for _, l := range [][]int64{nil, dims(1), dims(2), dims(65536), dims(0)} {
			wantBroadcastError(t, a.l, l, a.e)
			wantBroadcastError(t, l, a.l, a.e)
		}
		for _, b := range bad {
			wantBroadcastError(t, a.l, b.l, a.e)
		}
	}
}

// P5.1, P5.3: all lists of some numbers broadcast as the chapter says, in either order.
func TestBroadcastOfManyLists(t *testing.T) {
	for _, some := range [][]int64{{-1, 0, 1, 2, 3}, {1, 0, 256, 257}, {1, 2, 65536, 65537}} {
		all := lists(4, some...)
		for _, a := range all {
			for _, b := range all {
				got, e := Broadcast(a, b)
				want, wantE := slowBroadcast(a, b)
				if e != wantE || !slices.Equal(got, want) {
					t.Fatalf("Broadcast(%v, %v) is %v, %v; want %v, %v", a, b, got, e, want, wantE)
				}
			}
		}
	}
}

// P5.3: which of two shapes is the first one doesn't matter, nor which two of three are taken first (while what comes may be).
func TestBroadcastHangsOnNoOrder(t *testing.T) {
	all := shapes(3, 0, 1, 2, 300)
	for _, a := range all {
		for _, b := range all {
			ab, e := Broadcast(a, b)
			if ba, other := Broadcast(b, a); other != e || !slices.Equal(ab, ba) {
				t.Fatalf("of %v and %v come %v, %v, and %v, %v", a, b, ab, e, ba, other)
			}
			for _, c := range all {
				bc, other := Broadcast(b, c)
				if e != api.OK || other != api.OK {
					continue
				}
				left, leftE := Broadcast(ab, c)
				right, rightE := Broadcast(a, bc)
				if leftE != rightE || !slices.Equal(left, right) {
					t.Fatalf("of %v, %v and %v come %v, %v, and %v, %v", a, b, c, left, leftE, right, rightE)
				}
			}
		}
	}
}

// P5.1: a shape broadcasts to itself, with itself and with what has no dimensions.
func TestBroadcastToItself(t *testing.T) {
	for _, l := range shapes(5, 0, 1, 2, 7, 65536) {
		wantBroadcast(t, l, l, l)
		wantBroadcast(t, l, nil, l)
		wantBroadcast(t, nil, l, l)
	}
}

// P5.2
func TestPlaceAndCount(t *testing.T) {
	wantPlace(t, nil, 0, nil)
	wantPlace(t, dims(), 0, dims())
	wantPlace(t, dims(1), 0, dims(0))
	wantPlace(t, dims(5), 4, dims(4))
	wantPlace(t, dims(2, 3), 0, dims(0, 0))
	wantPlace(t, dims(2, 3), 1, dims(0, 1))
	wantPlace(t, dims(2, 3), 2, dims(0, 2))
	wantPlace(t, dims(2, 3), 3, dims(1, 0))
	wantPlace(t, dims(2, 3), 5, dims(1, 2))
	wantPlace(t, dims(2, 3, 4), 23, dims(1, 2, 3))
	wantPlace(t, dims(2, 1, 4), 6, dims(1, 0, 2))
	wantPlace(t, dims(65536), 65535, dims(65535))
	wantPlace(t, dims(256, 256), 65535, dims(255, 255))
	wantPlace(t, dims(65536, 1), 65535, dims(65535, 0))
	wantPlace(t, repeat(4, 8), 65535, repeat(3, 8))
	wantPlace(t, repeat(4, 8), 1<<14, dims(1, 0, 0, 0, 0, 0, 0, 0))
	wantPlace(t, repeat(1, 8), 0, repeat(0, 8))
}

// P5.2, P5.3: each number has the place that comes by counting, and each place its number.
func TestPlacesAreCounted(t *testing.T) {
	all := append(shapes(5, 0, 1, 2, 3), dims(65536), dims(256, 256), dims(3, 21845), dims(16, 1, 16, 16), repeat(4, 8), dims(2, 3, 1, 5, 1, 7, 2, 3))
	for _, l := range all {
		want := places(l)
		if size, e := Size(l); size != len(want) || e != api.OK {
			t.Fatalf("Size(%v) is %d, %v; it has %d places", l, size, e, len(want))
		}
		for n, p := range want {
			wantPlace(t, l, n, p)
			if got := Count(l, Place(l, n)); got != n {
				t.Fatalf("of %v, %d comes back as %d", l, n, got)
			}
			if got := Place(l, Count(l, p)); !slices.Equal(got, p) {
				t.Fatalf("of %v, %v comes back as %v", l, p, got)
			}
		}
	}
}

// P5.2
func TestBack(t *testing.T) {
	wantBack(t, nil, nil, nil)
	wantBack(t, nil, dims(1, 2, 3), nil)
	wantBack(t, dims(1), dims(0), dims(0))
	wantBack(t, dims(1), dims(4), dims(0))
	wantBack(t, dims(5), dims(4), dims(4))
	wantBack(t, dims(5), dims(7, 4), dims(4))
	wantBack(t, dims(1, 5), dims(9, 7, 4), dims(0, 4))
	wantBack(t, dims(5, 1), dims(9, 4, 7), dims(4, 0))
	wantBack(t, dims(2, 3), dims(1, 2), dims(1, 2))
	wantBack(t, dims(1, 1, 1), dims(3, 4, 5), dims(0, 0, 0))
	wantBack(t, repeat(4, 8), repeat(3, 8), repeat(3, 8))
	wantBack(t, dims(1, 4), repeat(3, 8), dims(0, 3))
}

// P5.2: a place taken back is a place there, and one that broadcast has 0 where it was 1, what the third one's place has elsewhere.
func TestBackOfAllPlaces(t *testing.T) {
	all := shapes(4, 1, 2, 3)
	for _, a := range all {
		for _, b := range all {
			third, e := Broadcast(a, b)
			if e != api.OK {
				continue
			}
			for _, p := range places(third) {
				for _, l := range [][]int64{a, b} {
					want := slices.Clone(p[len(p)-len(l):])
					for i := range l {
						want[i] = min(want[i], l[i]-1)
					}
					wantBack(t, l, p, want)
					wantPlace(t, l, Count(l, want), want)
				}
			}
		}
	}
}

// R1, R6: of what is no shape, and no place in one, the calls end, and answer the same each time.
func TestOthersEnd(t *testing.T) {
	some := dims(math.MinInt64, -1, 0, 1, 3, 65536, 65537, math.MaxInt64)
	all := append(lists(3, some...), repeat(1, 9), repeat(math.MaxInt64, 9), repeat(0, 8), repeat(65536, 8), repeat(-1, 20), make([]int64, api.MaxBytes))
	numbers := []int{math.MinInt, math.MinInt + 1, -1, 0, 1, 2, 27, 65535, 65536, 65537, math.MaxInt32, math.MaxInt - 1, math.MaxInt}
	for _, l := range all {
		for _, n := range numbers {
			if !slices.Equal(Place(l, n), Place(l, n)) {
				t.Fatalf("Place(%v, %d) isn't the same each time", l, n)
			}
		}
	}
	for _, l := range all {
		for _, p := range all {
			Same(l, p)
			Broadcast(l, p)
			if Count(l, p) != Count(l, p) {
				t.Fatalf("Count(%v, %v) isn't the same each time", l, p)
			}
			if len(l) < 100 && !slices.Equal(Back(l, p), Back(l, p)) {
				t.Fatalf("Back(%v, %v) isn't the same each time", l, p)
			}
		}
	}
}

// R3: what is handed in stays as it is, with the room behind its end, and shares nothing with what is answered.
func TestListsAreNotChangedNorShared(t *testing.T) {
	calls := map[string]func(a, b []int64) []int64{
		"Broadcast": func(a, b []int64) []int64 { l, _ := Broadcast(a, b); return l },
		"Place":     func(a, b []int64) []int64 { return Place(a, 1) },
		"Back":      func(a, b []int64) []int64 { return Back(a, b) },
		"Size":      func(a, b []int64) []int64 { Size(a); return nil },
		"Count":     func(a, b []int64) []int64 { Count(a, b); return nil },
		"Same":      func(a, b []int64) []int64 { Same(a, b); return nil },
	}
	const behind = 77
	for name, call := range calls {
		for _, a := range [][]int64{{}, {1}, {3}, {2, 3}, {1, 1}, {1, 1, 3}, {2, -1}} {
			for _, b := range [][]int64{{}, {1}, {3}, {2, 3}, {1, 2}, {1, 0, 2}} {
				roomA := append(slices.Clone(a), repeat(behind, 9)...)
				roomB := append(slices.Clone(b), repeat(behind, 9)...)
				got := call(roomA[:len(a)], roomB[:len(b)])
				want := fmt.Sprint(got)
				clear(got[:cap(got)])
				if !slices.Equal(roomA, append(slices.Clone(a), repeat(behind, 9)...)) || !slices.Equal(roomB, append(slices.Clone(b), repeat(behind, 9)...)) {
					t.Fatalf("%s of %v and %v: what was handed in is %v and %v", name, a, b, roomA, roomB)
				}
				again := call(roomA[:len(a)], roomB[:len(b)])
				if fmt.Sprint(again) != want {
					t.Fatalf("%s of %v and %v is %v, when what it once answered is changed; want %s", name, a, b, again, want)
				}
				clear(roomA)
				clear(roomB)
				if fmt.Sprint(again) != want {
					t.Fatalf("%s of %v and %v is changed to %v with what was handed in", name, a, b, again)
				}
			}
		}
	}
}
