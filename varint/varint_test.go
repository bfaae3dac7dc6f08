package varint

import (
	"math"
	"math/bits"
	"strings"
	"testing"

	"agate/api"
)

// rests are what may stand behind a number: Read must not look at any of it.
var rests = []string{"", "\x00", "\x01", "\x7f", "\x80", "\xff", "rest", "\x80\x80\x80", strings.Repeat("\xff", 12)}

// numbers are the ends of every length, the ends of the type, and numbers of all lengths between.
func numbers() []uint64 {
	l := []uint64{0, 1, 2, 126, 150, 255, 256, 300, math.MaxInt64, 1 << 63, 1<<63 + 1, math.MaxUint64 - 1, math.MaxUint64}
	for k := 1; k < 64; k++ {
		l = append(l, 1<<k-1, 1<<k, 1<<k+1)
	}
	x := uint64(1)
	for i := range 2000 {
		x = x*6364136223846793005 + 1442695040888963407
		l = append(l, x>>(i%64))
	}
	return l
}

// leastSize is reckoned of the bits, not of a writing.
func leastSize(v uint64) int { return max(1, (bits.Len64(v)+6)/7) }

// stretched is a writing of v that has more bytes than the least one: n more, of which the last one is 0.
func stretched(v uint64, n int) string {
	b := []byte(Put(v))
	b[len(b)-1] |= 0x80
	for range n - 1 {
		b = append(b, 0x80)
	}
	return string(append(b, 0))
}

func wantRead(t *testing.T, b string, v uint64, n int, e api.Errno) {
	t.Helper()
	gotV, gotN, gotE := Read(b)
	if gotV != v || gotN != n || gotE != e {
		t.Errorf("Read(% x) is %d, %d, %v; want %d, %d, %v", b, gotV, gotN, gotE, v, n, e)
	}
}

// P1.1
func TestLeastWriting(t *testing.T) {
	for _, c := range []struct {
		v uint64
		b string
	}{
		{0, "\x00"},
		{1, "\x01"},
		{127, "\x7f"},
		{128, "\x80\x01"},
		{150, "\x96\x01"},
		{300, "\xac\x02"},
		{16383, "\xff\x7f"},
		{16384, "\x80\x80\x01"},
		{1<<56 - 1, "\xff\xff\xff\xff\xff\xff\xff\x7f"},
		{1 << 56, "\x80\x80\x80\x80\x80\x80\x80\x80\x01"},
		{1<<63 - 1, "\xff\xff\xff\xff\xff\xff\xff\xff\x7f"},
		{1 << 63, "\x80\x80\x80\x80\x80\x80\x80\x80\x80\x01"},
		{1<<64 - 1, "\xff\xff\xff\xff\xff\xff\xff\xff\xff\x01"},
	} {
		if got := Put(c.v); got != c.b {
			t.Errorf("Put(%d) is % x; want % x", c.v, got, c.b)
		}
		if got := Size(c.v); got != len(c.b) {
			t.Errorf("Size(%d) is %d; want %d", c.v, got, len(c.b))
		}
		for _, rest := range rests {
			wantRead(t, c.b+rest, c.v, len(c.b), api.OK)
		}
	}
}

// P1.1
func TestPutAndSizeOfAllLengths(t *testing.T) {
	for _, v := range numbers() {
		b := Put(v)
		if want := leastSize(v); len(b) != want || Size(v) != want {
			t.Fatalf("of %d: Put has %d bytes, Size is %d; want %d", v, len(b), Size(v), want)
		}
		for i := range len(b) {
			want := byte(v >> (7 * i) & 0x7f)
			if i < len(b)-1 {
				want += 128
			}
			if b[i] != want {
				t.Fatalf("Put(%d) is % x; want the byte %d to be %x", v, b, i, want)
			}
		}
	}
}

// P1.1
func TestReadOfWritingsThatAreNotTheLeast(t *testing.T) {
	for _, c := range []struct {
		b string
		v uint64
	}{
		{"\x80\x00", 0},
		{"\x81\x00", 1},
		{"\xff\x00", 127},
		{"\x80\x81\x00", 128},
		{"\xac\x82\x80\x00", 300},
		{strings.Repeat("\x80", 9) + "\x00", 0},
		{"\x81" + strings.Repeat("\x80", 8) + "\x00", 1},
		{strings.Repeat("\xff", 9) + "\x00", 1<<63 - 1},
		{strings.Repeat("\x80", 9) + "\x01", 1 << 63},
		{"\xff" + strings.Repeat("\x80", 8) + "\x01", 1<<63 + 127},
	} {
		for _, rest := range rests {
			wantRead(t, c.b+rest, c.v, len(c.b), api.OK)
		}
	}
}

// P1.1
func TestReadShort(t *testing.T) {
	wantRead(t, "", 0, 0, api.ErrShort)
	for n := 1; n <= 9; n++ {
		wantRead(t, strings.Repeat("\x80", n), 0, 0, api.ErrShort)
		wantRead(t, strings.Repeat("\xff", n), 0, 0, api.ErrShort)
	}
	for _, v := range numbers() {
		for b := Put(v); len(b) > 0; {
			b = b[:len(b)-1]
			wantRead(t, b, 0, 0, api.ErrShort)
		}
	}
}

// P1.1
func TestReadLong(t *testing.T) {
	for _, nine := range []string{strings.Repeat("\x80", 9), strings.Repeat("\xff", 9), strings.Repeat("\x81", 9)} {
		for tenth := 2; tenth < 256; tenth++ {
			for _, rest := range rests {
				wantRead(t, nine+string([]byte{byte(tenth)})+rest, 0, 0, api.ErrLong)
			}
		}
	}
	for n := 10; n <= 40; n++ {
		long := strings.Repeat("\x80", n)
		for _, last := range []string{"", "\x00", "\x01", "\x7f"} {
			wantRead(t, long+last, 0, 0, api.ErrLong)
		}
	}
	wantRead(t, strings.Repeat("\xff", api.MaxBytes), 0, 0, api.ErrLong)
}

// P1.1: where a text is both too short and too long, what is told is what comes first from the left.
func TestReadTellsTheFirstFault(t *testing.T) {
	nine := strings.Repeat("\x80", 9)
	wantRead(t, nine, 0, 0, api.ErrShort)
	wantRead(t, nine+"\x80", 0, 0, api.ErrLong)
	wantRead(t, nine+"\x81", 0, 0, api.ErrLong)
	wantRead(t, nine+"\x02", 0, 0, api.ErrLong)
}

// P1.2
func TestZig(t *testing.T) {
	for _, c := range []struct {
		n int64
		v uint64
	}{
		{0, 0},
		{-1, 1},
		{1, 2},
		{-2, 3},
		{2, 4},
		{-3, 5},
		{63, 126},
		{-64, 127},
		{64, 128},
		{-65, 129},
		{math.MaxInt32, 1<<32 - 2},
		{math.MinInt32, 1<<32 - 1},
		{1 << 62, 1 << 63},
		{-1 << 62, 1<<63 - 1},
		{math.MaxInt64 - 1, 1<<64 - 4},
		{math.MinInt64 + 1, 1<<64 - 3},
		{math.MaxInt64, 1<<64 - 2},
		{math.MinInt64, 1<<64 - 1},
	} {
		if got := Zig(c.n); got != c.v {
			t.Errorf("Zig(%d) is %d; want %d", c.n, got, c.v)
		}
		if got := Unzig(c.v); got != c.n {
			t.Errorf("Unzig(%d) is %d; want %d", c.v, got, c.n)
		}
	}
}

// P1.2
func TestZigThereAndBack(t *testing.T) {
	for _, v := range numbers() {
		if got := Zig(Unzig(v)); got != v {
			t.Fatalf("Zig(Unzig(%d)) is %d", v, got)
		}
		if n := int64(v); Unzig(Zig(n)) != n {
			t.Fatalf("Unzig(Zig(%d)) is %d", n, Unzig(Zig(n)))
		}
		if n := int64(v); (Zig(n)%2 == 1) != (n < 0) {
			t.Fatalf("Zig(%d) is %d: only those below 0 come to be odd", n, Zig(n))
		}
	}
}

// P1.3
func TestWhatIsWrittenIsRead(t *testing.T) {
	for _, v := range numbers() {
		for _, rest := range rests {
			wantRead(t, Put(v)+rest, v, Size(v), api.OK)
		}
		wantRead(t, Put(v)+Put(v), v, Size(v), api.OK)
	}
}

// P1.3
func TestLongerWritingsAreReadToo(t *testing.T) {
	for _, v := range numbers() {
		for n := 1; Size(v)+n <= 10; n++ {
			for _, rest := range rests {
				wantRead(t, stretched(v, n)+rest, v, Size(v)+n, api.OK)
			}
		}
	}
}

// P1.3: gone through are all texts of up to three bytes; what one is read as has no shorter writing, and no other one as short.
func TestNoWritingIsLessThanPuts(t *testing.T) {
	try := func(b string) {
		v, n, e := Read(b)
		if e != api.OK {
			if v != 0 || n != 0 {
				t.Fatalf("Read(% x) is %d, %d beside %v", b, v, n, e)
			}
			return
		}
		if least := Put(v); n < len(least) || n == len(least) && b[:n] != least {
			t.Fatalf("% x is read as %d, whose writing is % x", b[:n], v, least)
		}
	}
	for i := range 1 << 8 {
		try(string([]byte{byte(i)}))
	}
	for i := range 1 << 16 {
		try(string([]byte{byte(i), byte(i >> 8)}))
	}
	for i := range 1 << 24 {
		try(string([]byte{byte(i), byte(i >> 8), byte(i >> 16)}))
	}
}
