package gauss

import (
	"encoding/binary"
	"math"
	"strings"
	"testing"

	"agate/api"
)

// greatest is the greatest part that may be.
const greatest = 1048576

// pair is a number by its parts, as whole numbers: what is asked for is reckoned of them, not of floats.
type pair struct{ re, im int64 }

// number is a pair's number. A whole number makes no -0.
func (p pair) number() complex128 { return complex(float64(p.re), float64(p.im)) }

// may says whether a pair is a number.
func (p pair) may() bool {
	return min(p.re, p.im) >= -greatest && max(p.re, p.im) <= greatest
}

// binaries are the calls that take two numbers, with what they ought to make of pairs.
var binaries = map[string]struct {
	call func(a, b complex128) (complex128, api.Errno)
	slow func(a, b pair) pair
}{
	"Add": {Add, func(a, b pair) pair { return pair{a.re + b.re, a.im + b.im} }},
	"Sub": {Sub, func(a, b pair) pair { return pair{a.re - b.re, a.im - b.im} }},
	"Mul": {Mul, func(a, b pair) pair { return pair{a.re*b.re - a.im*b.im, a.re*b.im + a.im*b.re} }},
}

// wrongFloats are floats that are no part: of each kind that the chapter names, far from what may be and as near as can be.
func wrongFloats() []float64 {
	l := []float64{
		math.NaN(),
		math.Float64frombits(0xfff8000000000001),
		math.Float64frombits(0x7ff0000000000001),
		math.Inf(1),
		math.Copysign(0, -1),
	}
	for _, above := range []float64{
		0.5, 0.25, 1.5, 3.75, greatest - 0.5, greatest + 0.5, greatest + 1, greatest + 2, 2 * greatest,
		math.Nextafter(0, 1), math.Nextafter(1, 0), math.Nextafter(1, 2),
		math.Nextafter(greatest, 0), math.Nextafter(greatest, 2*greatest),
		math.SmallestNonzeroFloat32, math.MaxFloat32, math.MaxFloat64, 1 << 24, 1 << 31, 1 << 32, 1 << 53, 1 << 63, 1e300,
	} {
		l = append(l, above, -above)
	}
	return append(l, math.Inf(-1))
}

// wrongNumbers have a wrong part, or two.
func wrongNumbers() []complex128 {
	var l []complex128
	for _, wrong := range wrongFloats() {
		for _, right := range []float64{0, 1, -1, 77, greatest, -greatest} {
			l = append(l, complex(wrong, right), complex(right, wrong))
		}
		l = append(l, complex(wrong, wrong))
	}
	return l
}

// edges are pairs of the parts at which something changes.
func edges() []pair {
	parts := []int64{0, 1, -1, 2, -3, 31, 1023, 1024, -1024, 1025, 1 << 19, 1<<19 + 1, -1 << 19, greatest - 1, greatest, 1 - greatest, -greatest}
	var l []pair
	for _, re := range parts {
		for _, im := range parts {
			l = append(l, pair{re, im})
		}
	}
	return l
}

// rule answers whole numbers from -n to n, the same each time.
func rule() func(n int64) int64 {
	x := uint64(1)
	return func(n int64) int64 {
		x = x*6364136223846793005 + 1442695040888963407
		return int64(x>>33%uint64(2*n+1)) - n
	}
}

// bytesOf are the bytes of two float32s by their bits.
func bytesOf(re, im uint32) string {
	b := binary.LittleEndian.AppendUint32(nil, re)
	return string(binary.LittleEndian.AppendUint32(b, im))
}

// slowPart is the whole number that the bits of a float32 are, reckoned of the bits alone; false, if they are no part.
func slowPart(bits uint32) (int64, bool) {
	if bits == 0 {
		return 0, true
	}
	power := int(bits>>23&255) - 127
	digits := int64(bits&(1<<23-1) | 1<<23)
	if power < 0 || power > 20 || digits%(1<<(23-power)) != 0 {
		return 0, false
	}
	part := digits >> (23 - power)
	if bits>>31 == 1 {
		part = -part
	}
	return part, part >= -greatest && part <= greatest
}

// alike says whether two numbers are so, to the bit: 0 and -0 aren't.
func alike(a, b complex128) bool {
	return math.Float64bits(real(a)) == math.Float64bits(real(b)) && math.Float64bits(imag(a)) == math.Float64bits(imag(b))
}

// want holds what a call told against what was asked for; beside an error that is 0.
func want(t *testing.T, call string, got complex128, gotE api.Errno, wanted complex128, wantE api.Errno) {
	t.Helper()
	if gotE != wantE || !alike(got, wanted) {
		t.Errorf("%s is %v, %v; want %v, %v", call, got, gotE, wanted, wantE)
	}
}

// wantPair holds it against a pair, or, where that is no number, against ErrValue.
func wantPair(t *testing.T, call string, got complex128, gotE api.Errno, p pair) {
	t.Helper()
	if p.may() {
		want(t, call, got, gotE, p.number(), api.OK)
	} else {
		want(t, call, got, gotE, 0, api.ErrValue)
	}
}

func wantRead(t *testing.T, b string, wanted complex128, wantE api.Errno) {
	t.Helper()
	if got, e := Read(b); e != wantE || !alike(got, wanted) {
		t.Errorf("Read(% x) is %v, %v; want %v, %v", b[:min(len(b), 20)], got, e, wanted, wantE)
	}
}

func wantPut(t *testing.T, z complex128, wanted string, wantE api.Errno) {
	t.Helper()
	if got, e := Put(z); e != wantE || got != wanted {
		t.Errorf("Put(%v) is % x, %v; want % x, %v", z, got, e, wanted, wantE)
	}
}

// P6.1: the chapter's example.
func TestExample(t *testing.T) {
	got, e := Mul(complex(1, 2), complex(3, 4))
	want(t, "(1 + 2i)(3 + 4i)", got, e, complex(-5, 10), api.OK)
}

// P6.1: the lowest byte is the first, the real part ahead of the imaginary one.
func TestBytes(t *testing.T) {
	for _, c := range []struct {
		z complex128
		b string
	}{
		{0, "\x00\x00\x00\x00\x00\x00\x00\x00"},
		{1, "\x00\x00\x80\x3f\x00\x00\x00\x00"},
		{1i, "\x00\x00\x00\x00\x00\x00\x80\x3f"},
		{-1, "\x00\x00\x80\xbf\x00\x00\x00\x00"},
		{complex(3, -2), "\x00\x00\x40\x40\x00\x00\x00\xc0"},
		{complex(greatest-1, 258), "\xf0\xff\x7f\x49\x00\x00\x81\x43"},
		{complex(greatest, -greatest), "\x00\x00\x80\x49\x00\x00\x80\xc9"},
	} {
		wantPut(t, c.z, c.b, api.OK)
		wantRead(t, c.b, c.z, api.OK)
	}
}

// P6.1, P6.2: all parts that may be, in either place.
func TestAllPartsThereAndBack(t *testing.T) {
	for n := int64(-greatest); n <= greatest; n++ {
		bits := math.Float32bits(float32(n))
		if part, ok := slowPart(bits); part != n || !ok {
			t.Fatalf("the bits of %d are those of %d, %v", n, part, ok)
		}
		for _, p := range []pair{{n, 5}, {-7, n}} {
			b := bytesOf(math.Float32bits(float32(p.re)), math.Float32bits(float32(p.im)))
			wantPut(t, p.number(), b, api.OK)
			wantRead(t, b, p.number(), api.OK)
		}
		if t.Failed() {
			return
		}
	}
}

// P6.2
func TestThereAndBack(t *testing.T) {
	next := rule()
	all := edges()
	for range 100000 {
		all = append(all, pair{next(greatest), next(greatest)}, pair{next(9), next(9)})
	}
	for _, p := range all {
		b, e := Put(p.number())
		if len(b) != 8 || e != api.OK {
			t.Fatalf("Put(%v) is % x, %v", p.number(), b, e)
		}
		wantRead(t, b, p.number(), api.OK)
	}
}

// P6.1: how many bytes there are is told ahead of what they are.
func TestReadErrorsOfLength(t *testing.T) {
	for _, one := range []string{"\x00", "\x80", "\xff", "\x7f"} {
		for n := range 8 {
			wantRead(t, strings.Repeat(one, n), 0, api.ErrShort)
		}
		for n := 9; n < 40; n++ {
			wantRead(t, strings.Repeat(one, n), 0, api.ErrLong)
		}
		wantRead(t, strings.Repeat(one, api.MaxBytes), 0, api.ErrLong)
	}
	one, _ := Put(1)
	for n := range len(one) {
		wantRead(t, one[:n], 0, api.ErrShort)
	}
	wantRead(t, one+"\x00", 0, api.ErrLong)
	wantRead(t, one+one, 0, api.ErrLong)
}

// P6.1: a part that is no number at all, infinite, with a fraction, too great, or -0.
func TestReadErrorsOfValue(t *testing.T) {
	wrong := []uint32{
		0x80000000, 0x00000001, 0x80000001, 0x007fffff, 0x00800000, // -0, and such as are near 0
		0x3f000000, 0xbf000000, 0x3f7fffff, 0x3f800001, 0x3fc00000, // halves, and such as are near 1
		0x497fffff, 0xc97fffff, 0x497ffff8, 0x497ffff1, // less than the greatest one, by a fraction
		0x49800001, 0xc9800001, 0x49800008, 0xc9800008, 0x4a000000, 0x7f7fffff, // more
		0x7f800000, 0xff800000, 0x7fc00000, 0xffc00000, 0x7f800001, 0xff800001, 0x7fffffff, 0xffffffff,
	}
	right := []uint32{0, 0x3f800000, 0xbf800000, 0x49800000, 0xc9800000}
	for _, w := range wrong {
		wantRead(t, bytesOf(w, w), 0, api.ErrValue)
		for _, r := range right {
			wantRead(t, bytesOf(w, r), 0, api.ErrValue)
			wantRead(t, bytesOf(r, w), 0, api.ErrValue)
		}
	}
}

// P6.1: bits from end to end of the type, and all near those of whole numbers, are read as they mean.
func TestReadOfManyBits(t *testing.T) {
	try := func(bits uint32) {
		part, ok := slowPart(bits)
		if ok {
			wantRead(t, bytesOf(bits, 0x40000000), pair{part, 2}.number(), api.OK)
			wantRead(t, bytesOf(0x40000000, bits), pair{2, part}.number(), api.OK)
			wantPut(t, pair{part, 2}.number(), bytesOf(bits, 0x40000000), api.OK)
		} else {
			wantRead(t, bytesOf(bits, 0x40000000), 0, api.ErrValue)
			wantRead(t, bytesOf(0x40000000, bits), 0, api.ErrValue)
		}
		if t.Failed() {
			t.FailNow()
		}
	}
	const step = 4099
	for bits := uint64(0); bits <= math.MaxUint32; bits += step {
		try(uint32(bits))
	}
	for power := range uint32(256) {
		for near := range uint32(66) {
			try(power<<23 + near - 33)
			try(power<<23 + 1<<31 + near - 33)
			try(power<<23 + near<<17)
		}
	}
}

// P6.1: the float64 is looked at, not the float32 that is near it.
func TestPutErrors(t *testing.T) {
	for _, z := range wrongNumbers() {
		wantPut(t, z, "", api.ErrValue)
	}
}

// P6.1
func TestReckoning(t *testing.T) {
	for _, c := range []struct {
		call    string
		a, b, z complex128
	}{
		{"Add", complex(1, 2), complex(3, -4), complex(4, -2)},
		{"Add", complex(greatest, -greatest), 0, complex(greatest, -greatest)},
		{"Add", complex(greatest-1, 1-greatest), complex(1, -1), complex(greatest, -greatest)},
		{"Sub", complex(1, 2), complex(3, -4), complex(-2, 6)},
		{"Sub", complex(1, 2), complex(1, 2), 0},
		{"Sub", 0, complex(greatest, -greatest), complex(-greatest, greatest)},
		{"Mul", complex(1, 2), complex(1, -2), 5},
		{"Mul", 1i, 1i, -1},
		{"Mul", complex(3, 5), 1i, complex(-5, 3)},
		{"Mul", 1024, 1024, greatest},
		{"Mul", 1024i, 1024i, -greatest},
		{"Mul", complex(512, 1024), complex(1024, -512), complex(greatest, 786432)},
		{"Mul", complex(greatest, -greatest), 1i, complex(greatest, greatest)},
	} {
		got, e := binaries[c.call].call(c.a, c.b)
		want(t, c.call, got, e, c.z, api.OK)
	}
	got, e := Neg(complex(5, -7))
	want(t, "Neg", got, e, complex(-5, 7), api.OK)
}

// P6.1: what comes may be too great, in one part alone too.
func TestReckoningErrors(t *testing.T) {
	for _, c := range []struct {
		call string
		a, b complex128
	}{
		{"Add", greatest, 1},
		{"Add", -greatest, -1},
		{"Add", greatest * 1i, 1i},
		{"Add", complex(5, -greatest), complex(5, -1)},
		{"Add", greatest, greatest},
		{"Sub", greatest, -1},
		{"Sub", -greatest, 1},
		{"Sub", -greatest * 1i, complex(0, 1)},
		{"Sub", complex(greatest, greatest), complex(-greatest, -greatest)},
		{"Mul", 1024, 1025},
		{"Mul", complex(0, 1024), complex(0, 1025)},
		{"Mul", 1025, complex(0, -1024)},
		{"Mul", complex(1024, 1024), complex(1024, 1024)},
		{"Mul", complex(1024, 1024), complex(1024, -1024)},
		{"Mul", complex(greatest, greatest), complex(1, 1)},
		{"Mul", complex(greatest, greatest), complex(greatest, greatest)},
		{"Mul", complex(greatest, -greatest), complex(-greatest, greatest)},
	} {
		got, e := binaries[c.call].call(c.a, c.b)
		want(t, c.call, got, e, 0, api.ErrValue)
	}
}

// P6.1: a wrong argument, as the first, as the second, and as both, whatever would come of it.
func TestWrongArguments(t *testing.T) {
	for _, wrong := range wrongNumbers() {
		for name, f := range binaries {
			for _, right := range []complex128{0, 1, -1, 1i, -1i, 2, complex(3, 4), complex(greatest, -greatest)} {
				got, e := f.call(wrong, right)
				want(t, name, got, e, 0, api.ErrValue)
				got, e = f.call(right, wrong)
				want(t, name, got, e, 0, api.ErrValue)
			}
			got, e := f.call(wrong, wrong)
			want(t, name, got, e, 0, api.ErrValue)
		}
		got, e := Neg(wrong)
		want(t, "Neg", got, e, 0, api.ErrValue)
	}
}

// P6.1: where 0 comes, it is never -0, and may be put.
func TestZeroIsNotMinusZero(t *testing.T) {
	zeros := map[string]func() (complex128, api.Errno){
		"-0":           func() (complex128, api.Errno) { return Neg(0) },
		"0 + 0":        func() (complex128, api.Errno) { return Add(0, 0) },
		"1 + -1":       func() (complex128, api.Errno) { return Add(1, -1) },
		"0 - 0":        func() (complex128, api.Errno) { return Sub(0, 0) },
		"3 - 3":        func() (complex128, api.Errno) { return Sub(complex(3, -3), complex(3, -3)) },
		"0 by -1":      func() (complex128, api.Errno) { return Mul(0, -1) },
		"-1 by 0":      func() (complex128, api.Errno) { return Mul(-1, 0) },
		"0 by -i":      func() (complex128, api.Errno) { return Mul(0, -1i) },
		"-5 - 7i by 0": func() (complex128, api.Errno) { return Mul(complex(-5, -7), 0) },
		"0 by 0":       func() (complex128, api.Errno) { return Mul(0, 0) },
	}
	for name, call := range zeros {
		got, e := call()
		want(t, name, got, e, 0, api.OK)
		wantPut(t, got, "\x00\x00\x00\x00\x00\x00\x00\x00", e)
	}
	for _, z := range []complex128{1, 1i, -1, complex(0, -1), greatest, complex(0, greatest)} {
		got, e := Neg(z)
		want(t, "Neg", got, e, complex(0-real(z), 0-imag(z)), api.OK)
	}
}

// P6.1: all pairs of the edges, and many others, make what whole numbers make; what comes is read as it was, when put.
func TestReckoningOfManyNumbers(t *testing.T) {
	try := func(a, b pair) {
		for name, f := range binaries {
			got, e := f.call(a.number(), b.number())
			wantPair(t, name, got, e, f.slow(a, b))
			if e == api.OK {
				text, _ := Put(got)
				wantRead(t, text, got, api.OK)
			}
			if t.Failed() {
				t.Fatalf("%s of %v and %v", name, a, b)
			}
		}
	}
	for _, a := range edges() {
		for _, b := range edges() {
			try(a, b)
		}
		got, e := Neg(a.number())
		wantPair(t, "Neg", got, e, pair{-a.re, -a.im})
	}
	next := rule()
	for _, n := range []int64{3, 40, 700, 1100, greatest / 2, greatest} {
		for range 20000 {
			try(pair{next(n), next(n)}, pair{next(n), next(n)})
		}
	}
}

// R5: of the same, the same comes each time, whatever was reckoned between.
func TestSameEachTime(t *testing.T) {
	for _, p := range edges() {
		first, firstE := Mul(p.number(), p.number())
		Read("")
		Put(complex(math.NaN(), 0))
		Neg(p.number())
		again, e := Mul(p.number(), p.number())
		want(t, "Mul", again, e, first, firstE)
	}
}
