package tensor

import (
	"encoding/binary"
	"math"
	"slices"
	"strings"
	"testing"

	"agate/api"
	"agate/kind"
)

// wide is how many bytes an element of a kind has, as chapter 4 says; of others it has none.
var wide = map[kind.Kind]int{kind.Float: 4, kind.Byte: 1, kind.Int: 8, kind.Flag: 1, kind.Gauss: 8}

// noKinds are numbers of which none is a kind.
var noKinds = []kind.Kind{0, -1, 3, 4, 5, 6, 8, 10, 13, 15, 16, 7 + 256, 9 + 1<<32, 14 - 1<<32, math.MinInt, math.MaxInt}

// dims is a list of numbers, shorter to write.
func dims(l ...int64) []int64 { return l }

// repeat is a list of n times one number.
func repeat(d int64, n int) []int64 { return slices.Repeat(dims(d), n) }

// zeros are n bytes 0.
func zeros(n int) string { return strings.Repeat("\x00", n) }

// of is a tensor of a right name.
func of(k kind.Kind, l []int64, data string) Tensor { return Tensor{"t", k, l, data} }

// float32s are the bytes of such, one behind the other.
func float32s(l ...float32) string {
	var b []byte
	for _, f := range l {
		b = binary.LittleEndian.AppendUint32(b, math.Float32bits(f))
	}
	return string(b)
}

// int64s are the bytes of such, one behind the other.
func int64s(l ...int64) string {
	var b []byte
	for _, n := range l {
		b = binary.LittleEndian.AppendUint64(b, uint64(n))
	}
	return string(b)
}

// rule answers numbers, the same each time.
func rule() func() uint64 {
	x := uint64(1)
	return func() uint64 {
		x = x*6364136223846793005 + 1442695040888963407
		return x ^ x>>29
	}
}

// clone is an alike tensor in memory of its own.
func clone(t Tensor) Tensor {
	t.Dims = slices.Clone(t.Dims)
	return t
}

// alike says field by field whether two tensors are so.
func alike(a, b Tensor) bool {
	return a.Name == b.Name && a.Kind == b.Kind && slices.Equal(a.Dims, b.Dims) && a.Data == b.Data
}

// brief is a tensor to tell of.
func brief(t Tensor) string {
	t.Data = t.Data[:min(len(t.Data), 24)]
	return "tensor " + t.Name[:min(len(t.Name), 70)] + " " + t.Kind.String() + " " + strings.Repeat("d", len(t.Dims))
}

func wantName(t *testing.T, s string, want bool) {
	t.Helper()
	if got := Name(s); got != want {
		t.Errorf("Name(%q), of %d bytes, is %v; want %v", s[:min(len(s), 80)], len(s), got, want)
	}
}

// wantCheck asks Check, and, where something is wrong, Ints, Flags and Nums, which must tell the same, and nothing else.
func wantCheck(t *testing.T, u Tensor, want api.Errno) {
	t.Helper()
	if got := u.Check(); got != want {
		t.Errorf("%s, %v, %d bytes: Check is %v; want %v", brief(u), u.Dims, len(u.Data), got, want)
	}
	if want == api.OK {
		return
	}
	wantInts(t, u, nil, want)
	wantFlags(t, u, nil, want)
	wantNums(t, u, nil, want)
}

func wantInts(t *testing.T, u Tensor, want []int64, wantE api.Errno) {
	t.Helper()
	if got, e := u.Ints(); e != wantE || !slices.Equal(got, want) {
		t.Errorf("%s, %v: Ints is %v, %v; want %v, %v", brief(u), u.Dims, got, e, want, wantE)
	}
}

func wantFlags(t *testing.T, u Tensor, want []bool, wantE api.Errno) {
	t.Helper()
	if got, e := u.Flags(); e != wantE || !slices.Equal(got, want) {
		t.Errorf("%s, %v: Flags is %v, %v; want %v, %v", brief(u), u.Dims, got, e, want, wantE)
	}
}

// wantNums holds numbers against each other to the bit: 0 and -0 aren't alike.
func wantNums(t *testing.T, u Tensor, want []complex128, wantE api.Errno) {
	t.Helper()
	bits := func(a, b complex128) bool {
		return math.Float64bits(real(a)) == math.Float64bits(real(b)) && math.Float64bits(imag(a)) == math.Float64bits(imag(b))
	}
	if got, e := u.Nums(); e != wantE || !slices.EqualFunc(got, want, bits) {
		t.Errorf("%s, %v: Nums is %v, %v; want %v, %v", brief(u), u.Dims, got, e, want, wantE)
	}
}

func wantElem(t *testing.T, u Tensor, i int, want string) {
	t.Helper()
	if got := u.Elem(i); got != want {
		t.Errorf("%s, %v, %d bytes: Elem(%d) is % x; want % x", brief(u), u.Dims, len(u.Data), i, got, want)
	}
}

func wantTensor(t *testing.T, call string, got, want Tensor) {
	t.Helper()
	if !alike(got, want) {
		t.Errorf("%s is %q %d %v % x; want %q %d %v % x", call, got.Name, got.Kind, got.Dims, got.Data, want.Name, want.Kind, want.Dims, want.Data)
	}
}

// P7.2: the chapter's example.
func TestExample(t *testing.T) {
	u := OfInts("a", dims(2), 1, -1)
	want := "\x01\x00\x00\x00\x00\x00\x00\x00\xff\xff\xff\xff\xff\xff\xff\xff"
	if len(u.Data) != 16 {
		t.Errorf("it has %d bytes; want 16", len(u.Data))
	}
	wantTensor(t, "OfInts", u, Tensor{"a", kind.Int, dims(2), want})
}

// P7.1: a name has from 1 to 64 bytes.
func TestNameLengths(t *testing.T) {
	for n := range 200 {
		for _, one := range []string{"!", "a", "~"} {
			wantName(t, strings.Repeat(one, n), n >= 1 && n <= 64)
		}
	}
	wantName(t, strings.Repeat("a", api.MaxBytes), false)
	wantName(t, strings.Repeat("a", 256+5), false)
	wantName(t, strings.Repeat("a", 65536+5), false)
}

// P7.1: each byte is from ! to ~, wherever it stands.
func TestNameBytes(t *testing.T) {
	for c := range 256 {
		one, want := string([]byte{byte(c)}), c >= 0x21 && c <= 0x7e
		wantName(t, one, want)
		for _, n := range []int{1, 2, 31, 63} {
			for at := range n + 1 {
				wantName(t, strings.Repeat("x", at)+one+strings.Repeat("x", n-at), want)
			}
		}
	}
	for _, s := range []string{"x", "w/a.bin", "v0", "../a", "A-b_c:9", "\"'`\\", "!~"} {
		wantName(t, s, true)
	}
	for _, s := range []string{"a b", " a", "a ", "a\n", "\ta", "a\x00", "ä", "xﬁ", "日本", "a\u00a0b", "\xff\xfe", "a\x7f"} {
		wantName(t, s, false)
	}
}

// P7.1
func TestCheckOfRightTensors(t *testing.T) {
	for k, size := range wide {
		for _, c := range []struct {
			l []int64
			n int
		}{
			{nil, 1}, {dims(), 1}, {dims(1), 1}, {dims(3), 3}, {dims(2, 3), 6}, {dims(0), 0}, {dims(5, 0, 7), 0},
			{dims(65536, 65536, 0), 0}, {dims(65536), 65536}, {dims(256, 256), 65536}, {repeat(4, 8), 65536}, {repeat(1, 8), 1}, {repeat(0, 8), 0},
		} {
			wantCheck(t, of(k, c.l, zeros(c.n*size)), api.OK)
			wantCheck(t, Tensor{strings.Repeat("~", 64), k, c.l, zeros(c.n * size)}, api.OK)
		}
	}
}

// P7.1: the Name, ahead of all else.
func TestCheckErrorsOfName(t *testing.T) {
	for _, name := range []string{"", " ", "a b", strings.Repeat("a", 65), "é", "\x7f"} {
		wantCheck(t, Tensor{name, kind.Int, dims(1), zeros(8)}, api.ErrName)
		wantCheck(t, Tensor{name, 3, dims(1), zeros(8)}, api.ErrName)
		wantCheck(t, Tensor{name, kind.Int, dims(-1), zeros(8)}, api.ErrName)
		wantCheck(t, Tensor{name, kind.Int, dims(65537), zeros(8)}, api.ErrName)
		wantCheck(t, Tensor{name, kind.Int, dims(1), zeros(7)}, api.ErrName)
		wantCheck(t, Tensor{name, kind.Flag, dims(1), "\x02"}, api.ErrName)
		wantCheck(t, Tensor{name, 0, repeat(-1, 9), "\xff"}, api.ErrName)
	}
	wantCheck(t, Tensor{}, api.ErrName)
}

// P7.1: the Kind, ahead of the shape and of the Data.
func TestCheckErrorsOfKind(t *testing.T) {
	for _, k := range noKinds {
		for _, data := range []string{"", zeros(1), zeros(4), zeros(8), zeros(65536)} {
			wantCheck(t, of(k, nil, data), api.ErrKind)
			wantCheck(t, of(k, dims(0), data), api.ErrKind)
			wantCheck(t, of(k, dims(8), data), api.ErrKind)
			wantCheck(t, of(k, dims(-1), data), api.ErrKind)
			wantCheck(t, of(k, dims(65537), data), api.ErrKind)
			wantCheck(t, of(k, repeat(1, 9), data), api.ErrKind)
		}
	}
}

// P7.1: the shape, ahead of the Data.
func TestCheckErrorsOfShape(t *testing.T) {
	for k, size := range wide {
		for _, data := range []string{"", zeros(size), zeros(9 * size), zeros(65537 * size), strings.Repeat("\x02", size)} {
			for _, l := range [][]int64{repeat(1, 9), repeat(0, 9), repeat(65537, 9), dims(-1), dims(0, -1), dims(math.MinInt64), dims(65537, -1), dims(-3, -3), repeat(1, 100)} {
				wantCheck(t, of(k, l, data), api.ErrShape)
			}
			for _, l := range [][]int64{dims(65537), dims(65536, 2), dims(256, 257), dims(65537, 0), dims(0, math.MaxInt64), dims(1<<32, 1<<32), repeat(5, 8), dims(math.MaxInt64, math.MaxInt64)} {
				wantCheck(t, of(k, l, data), api.ErrSize)
			}
		}
	}
}

// P7.1: fewer bytes, or more, than the elements have together, whatever they are.
func TestCheckErrorsOfForm(t *testing.T) {
	for k, size := range wide {
		for _, c := range []struct {
			l []int64
			n int
		}{{nil, 1}, {dims(0), 0}, {dims(3, 0), 0}, {dims(1), 1}, {dims(2, 3), 6}, {dims(65536), 65536}} {
			right := c.n * size
			for _, n := range []int{0, 1, right - size, right - 1, right + 1, right + size, 2 * right, right + 256, right + 65536} {
				if n == right || n < 0 {
					continue
				}
				wantCheck(t, of(k, c.l, zeros(n)), api.ErrForm)
				wantCheck(t, of(k, c.l, strings.Repeat("\xff", n)), api.ErrForm)
			}
		}
	}
	wantCheck(t, of(kind.Flag, dims(2), "\x02"), api.ErrForm)
	wantCheck(t, of(kind.Gauss, nil, "\xff\xff\xff"), api.ErrForm)
}

// P7.1: an element of Flag is 0 or 1, wherever it stands; those of Byte, Int and Float may be all that there is.
func TestCheckOfFlags(t *testing.T) {
	for c := range 256 {
		one, want := string([]byte{byte(c)}), api.ErrValue
		if c <= 1 {
			want = api.OK
		}
		wantCheck(t, of(kind.Flag, nil, one), want)
		for at := range 6 {
			wantCheck(t, of(kind.Flag, dims(3, 2), strings.Repeat("\x01", at)+one+zeros(5-at)), want)
		}
		wantCheck(t, of(kind.Flag, dims(65536), zeros(65535)+one), want)
		wantCheck(t, of(kind.Byte, dims(2), one+one), api.OK)
		wantCheck(t, of(kind.Int, nil, strings.Repeat(one, 8)), api.OK)
		wantCheck(t, of(kind.Float, dims(3), strings.Repeat(one, 12)), api.OK)
	}
	nan, inf := float32(math.NaN()), float32(math.Inf(-1))
	wantCheck(t, of(kind.Float, dims(4), float32s(nan, inf, 0.5, float32(math.Copysign(0, -1)))), api.OK)
}

// P7.1: an element of Gauss is a number of layer 6, wherever it stands.
func TestCheckOfNumbers(t *testing.T) {
	var all, one = float32s(0, 0, 1, -1, 1<<20, -1<<20), float32s(1, 2)
	wantCheck(t, of(kind.Gauss, dims(3), all), api.OK)
	for _, part := range []float32{0.5, -0.5, 1<<20 + 1, -1<<20 - 1, float32(math.NaN()), float32(math.Inf(1)), float32(math.Inf(-1)), float32(math.Copysign(0, -1)), math.MaxFloat32, math.SmallestNonzeroFloat32} {
		for _, wrong := range []string{float32s(part, 0), float32s(0, part), float32s(part, part)} {
			wantCheck(t, of(kind.Gauss, nil, wrong), api.ErrValue)
			for at := range 4 {
				wantCheck(t, of(kind.Gauss, dims(2, 2), strings.Repeat(one, at)+wrong+strings.Repeat(one, 3-at)), api.ErrValue)
			}
			wantCheck(t, of(kind.Gauss, dims(65536), zeros(65535*8)+wrong), api.ErrValue)
		}
	}
}

// P7.1: alike in all fields, tensors that may not be, too.
func TestSame(t *testing.T) {
	for _, u := range oddTensors() {
		if !u.Same(clone(u)) || !clone(u).Same(u) {
			t.Errorf("%s isn't the same as itself", brief(u))
		}
	}
	nil1, empty := of(kind.Int, nil, zeros(8)), of(kind.Int, dims(), zeros(8))
	if !nil1.Same(empty) || !empty.Same(nil1) {
		t.Error("no Dims and no Dims aren't the same")
	}
	roomy := of(kind.Int, append(make([]int64, 0, 9), 2, 3), "x")
	if !roomy.Same(of(kind.Int, dims(2, 3), "x")) {
		t.Error("room behind the end of Dims counts")
	}
}

// P7.1: one field that is another one is enough.
func TestNotSame(t *testing.T) {
	from := OfInts("a", dims(2, 3), 1, 2, 3, 4, 5, 6)
	others := []Tensor{
		{"b", from.Kind, from.Dims, from.Data},
		{"", from.Kind, from.Dims, from.Data},
		{"A", from.Kind, from.Dims, from.Data},
		{"aa", from.Kind, from.Dims, from.Data},
		{"a\x00", from.Kind, from.Dims, from.Data},
		{"a", kind.Gauss, from.Dims, from.Data},
		{"a", from.Kind + 1<<32, from.Dims, from.Data},
		{"a", 0, from.Dims, from.Data},
		{"a", from.Kind, nil, from.Data},
		{"a", from.Kind, dims(6), from.Data},
		{"a", from.Kind, dims(3, 2), from.Data},
		{"a", from.Kind, dims(2, 3, 1), from.Data},
		{"a", from.Kind, dims(2), from.Data},
		{"a", from.Kind, dims(2, 4), from.Data},
		{"a", from.Kind, from.Dims, ""},
		{"a", from.Kind, from.Dims, from.Data[1:] + from.Data[:1]},
		{"a", from.Kind, from.Dims, from.Data[:47]},
		{"a", from.Kind, from.Dims, from.Data[:47] + "\x01"},
		{"a", from.Kind, from.Dims, from.Data + "\x00"},
		{},
	}
	for i, u := range others {
		if from.Same(u) || u.Same(from) {
			t.Errorf("the tensor %d of the others is the same", i)
		}
	}
	all := oddTensors()
	for i, a := range all {
		for j, b := range all {
			if got, want := a.Same(b), alike(a, b); got != want {
				t.Errorf("tensors %d and %d: Same is %v; want %v", i, j, got, want)
			}
		}
	}
}

// oddTensors are right ones, and such as may not be, in many ways.
func oddTensors() []Tensor {
	var l []Tensor
	for _, k := range []kind.Kind{kind.Float, kind.Byte, kind.Int, kind.Flag, kind.Gauss, 0, -7, math.MaxInt, math.MinInt} {
		for _, d := range [][]int64{nil, dims(0), dims(1), dims(2), dims(2, 2), dims(-1), dims(65537), repeat(1, 9), dims(math.MaxInt64, math.MinInt64)} {
			for _, data := range []string{"", "\x01", "\x02", zeros(4), zeros(8), "\xff\x00\x01\x02\x03\x04\x05\x06\x07", zeros(16), zeros(32)} {
				l = append(l, Tensor{"t", k, d, data}, Tensor{"", k, d, data})
			}
		}
	}
	return l
}

// P7.1: the i-th element of Data, whatever Dims, the Name, and the elements are.
func TestElem(t *testing.T) {
	var data strings.Builder
	for i := range 50 {
		data.WriteByte(byte(200 + 3*i))
	}
	for k, size := range wide {
		for _, l := range [][]int64{nil, dims(0), dims(1), dims(50), dims(-1), dims(65537), repeat(1, 9)} {
			for n := range data.Len() + 1 {
				u := Tensor{"no name", k, l, data.String()[:n]}
				for i := range n / size {
					wantElem(t, u, i, u.Data[i*size:(i+1)*size])
				}
				for _, none := range []int{-1, -2, -size, n / size, n/size + 1, n, n + 1, 1 << 61, 1 << 62, 1<<61 + 1, 1 << 32, math.MaxInt, math.MinInt, math.MinInt / size, math.MaxInt/size + 1} {
					if none < 0 || none >= n/size {
						wantElem(t, u, none, "")
					}
				}
			}
		}
	}
	for _, k := range noKinds {
		for _, i := range []int{0, 1, -1, math.MaxInt, math.MinInt} {
			wantElem(t, of(k, dims(50), data.String()), i, "")
			wantElem(t, Tensor{}, i, "")
		}
	}
}

// P7.2: the lowest byte is the first.
func TestIntsAreTheirBytes(t *testing.T) {
	for _, c := range []struct {
		n int64
		b string
	}{
		{0, "\x00\x00\x00\x00\x00\x00\x00\x00"},
		{1, "\x01\x00\x00\x00\x00\x00\x00\x00"},
		{-1, "\xff\xff\xff\xff\xff\xff\xff\xff"},
		{-2, "\xfe\xff\xff\xff\xff\xff\xff\xff"},
		{0x0102030405060708, "\x08\x07\x06\x05\x04\x03\x02\x01"},
		{1 << 32, "\x00\x00\x00\x00\x01\x00\x00\x00"},
		{math.MaxInt64, "\xff\xff\xff\xff\xff\xff\xff\x7f"},
		{math.MinInt64, "\x00\x00\x00\x00\x00\x00\x00\x80"},
	} {
		wantTensor(t, "OfInts", OfInts("n", nil, c.n), Tensor{"n", kind.Int, nil, c.b})
		wantInts(t, of(kind.Int, nil, c.b), []int64{c.n}, api.OK)
		wantInts(t, of(kind.Int, dims(2), c.b+int64s(7)), []int64{c.n, 7}, api.OK)
	}
}

// P7.2
func TestFlagsAreTheirBytes(t *testing.T) {
	u := OfFlags("f", dims(2, 2), true, false, false, true)
	wantTensor(t, "OfFlags", u, Tensor{"f", kind.Flag, dims(2, 2), "\x01\x00\x00\x01"})
	wantFlags(t, u, []bool{true, false, false, true}, api.OK)
}

// P7.2
func TestNumsAreTheirBytes(t *testing.T) {
	l := []complex128{0, 1, -1i, complex(3, -4), complex(1<<20, -1<<20)}
	u := OfNums("z", dims(5), l...)
	wantTensor(t, "OfNums", u, Tensor{"z", kind.Gauss, dims(5), float32s(0, 0, 1, 0, 0, -1, 3, -4, 1<<20, -1<<20)})
	wantNums(t, u, l, api.OK)
}

// P7.2: numbers that are none of layer 6's are 8 bytes 0 each, those beside them are as they are.
func TestOfNumsOfWrongNumbers(t *testing.T) {
	minus := math.Copysign(0, -1)
	for _, part := range []float64{0.5, -0.25, 1<<20 + 1, -1<<20 - 1, 1<<20 + 0.5, math.NaN(), math.Inf(1), math.Inf(-1), minus, 1e300, math.SmallestNonzeroFloat64} {
		for _, wrong := range []complex128{complex(part, 5), complex(5, part), complex(part, part), complex(part, minus)} {
			u := OfNums("z", dims(3), complex(1, 2), wrong, complex(-3, 4))
			wantTensor(t, "OfNums", u, Tensor{"z", kind.Gauss, dims(3), float32s(1, 2, 0, 0, -3, 4)})
			wantNums(t, u, []complex128{complex(1, 2), 0, complex(-3, 4)}, api.OK)
			wantTensor(t, "OfNums", OfNums("z", nil, wrong), Tensor{"z", kind.Gauss, nil, zeros(8)})
		}
	}
}

// P7.2: a right tensor of another kind; what is wrong with it is told ahead of that.
func TestErrorsOfType(t *testing.T) {
	for k, size := range wide {
		for _, c := range []struct {
			l []int64
			n int
		}{{nil, 1}, {dims(0), 0}, {dims(2, 2), 4}} {
			u := of(k, c.l, zeros(c.n*size))
			if k != kind.Int {
				wantInts(t, u, nil, api.ErrType)
			}
			if k != kind.Flag {
				wantFlags(t, u, nil, api.ErrType)
			}
			if k != kind.Gauss {
				wantNums(t, u, nil, api.ErrType)
			}
		}
	}
	for _, u := range oddTensors() {
		if e := u.Check(); e != api.OK {
			wantCheck(t, u, e)
		}
	}
}

// P7.2, P7.3: a shape of size 0 has no elements, a shape without dimensions one.
func TestFewElements(t *testing.T) {
	for _, l := range [][]int64{dims(0), dims(4, 0), repeat(0, 8)} {
		wantInts(t, OfInts("a", l), nil, api.OK)
		wantFlags(t, OfFlags("a", l), nil, api.OK)
		wantNums(t, OfNums("a", l), nil, api.OK)
	}
	for _, l := range [][]int64{nil, dims(), dims(1), repeat(1, 8)} {
		wantInts(t, OfInts("a", l, -5), []int64{-5}, api.OK)
		wantFlags(t, OfFlags("a", l, true), []bool{true}, api.OK)
		wantNums(t, OfNums("a", l, 5i), []complex128{5i}, api.OK)
	}
}

// P7.2: a tensor is made of whatever is handed in; what is wrong with it Check tells.
func TestMadeAsHandedIn(t *testing.T) {
	for _, l := range [][]int64{dims(1), dims(-1), dims(math.MinInt64, math.MaxInt64), repeat(65537, 9), repeat(2, 300)} {
		for _, name := range []string{"", "a b", "\xff", strings.Repeat("n", 100)} {
			wantTensor(t, "OfInts", OfInts(name, l, 7, 8), Tensor{name, kind.Int, l, int64s(7, 8)})
			wantTensor(t, "OfInts", OfInts(name, l), Tensor{name, kind.Int, l, ""})
			wantTensor(t, "OfFlags", OfFlags(name, l, true, true), Tensor{name, kind.Flag, l, "\x01\x01"})
			wantTensor(t, "OfFlags", OfFlags(name, l), Tensor{name, kind.Flag, l, ""})
			wantTensor(t, "OfNums", OfNums(name, l, 1, 2), Tensor{name, kind.Gauss, l, float32s(1, 0, 2, 0)})
			wantTensor(t, "OfNums", OfNums(name, l), Tensor{name, kind.Gauss, l, ""})
		}
	}
	wantCheck(t, OfInts("", dims(2), 1, 2), api.ErrName)
	wantCheck(t, OfInts("a", dims(-2), 1, 2), api.ErrShape)
	wantCheck(t, OfFlags("a", dims(65537), true), api.ErrSize)
	wantCheck(t, OfFlags("a", dims(2), true), api.ErrForm)
	wantCheck(t, OfNums("a", dims(2), 1, 2, 3), api.ErrForm)
	wantCheck(t, OfNums("a", nil), api.ErrForm)
}

// P7.3: what is made of elements has these, many of them, too.
func TestThereAndBack(t *testing.T) {
	next := rule()
	for _, n := range []int{0, 1, 2, 3, 7, 8, 9, 255, 256, 257, 1000, 65535, 65536} {
		ints, flags, nums := make([]int64, n), make([]bool, n), make([]complex128, n)
		for i := range n {
			ints[i] = int64(next()) >> (next() % 64)
			flags[i] = next()%2 == 1
			nums[i] = complex(float64(int64(next()%(1<<21+1))-1<<20), float64(int64(next()%(1<<21+1))-1<<20))
		}
		l := dims(int64(n))
		a, b, c := OfInts("a", l, ints...), OfFlags("b", l, flags...), OfNums("c", l, nums...)
		wantCheck(t, a, api.OK)
		wantCheck(t, b, api.OK)
		wantCheck(t, c, api.OK)
		wantInts(t, a, ints, api.OK)
		wantFlags(t, b, flags, api.OK)
		wantNums(t, c, nums, api.OK)
		for _, i := range []int{0, 1, n / 2, n - 1} {
			if i >= 0 && i < n {
				wantElem(t, a, i, int64s(ints[i]))
				wantElem(t, c, i, OfNums("c", nil, nums[i]).Data)
			}
		}
		wantElem(t, a, n, "")
	}
}

// P7.3: elements go by their order, whatever the shape is.
func TestOrderHangsOnNoShape(t *testing.T) {
	l := []int64{5, 4, 3, 2, 1, 0}
	for _, d := range [][]int64{dims(6), dims(2, 3), dims(3, 2), dims(1, 6, 1), dims(6, 1)} {
		u := OfInts("a", d, l...)
		wantInts(t, u, l, api.OK)
		for i, n := range l {
			wantElem(t, u, i, int64s(n))
		}
	}
}

// R3: what is handed in stays as it is, with the room behind its end, and isn't kept.
func TestListsAreNotChangedNorKept(t *testing.T) {
	room := []int64{2, 2, 77, 78}
	ints, flags, nums := []int64{1, 2, 3, 4, 77}, []bool{true, false, true, true, true}, []complex128{1, 2, 0.5, 4, 77}
	a, b, c := OfInts("a", room[:2], ints[:4]...), OfFlags("b", room[:2], flags[:4]...), OfNums("c", room[:2], nums[:4]...)
	a.Ints()
	b.Flags()
	c.Nums()
	if !slices.Equal(room, []int64{2, 2, 77, 78}) || !slices.Equal(ints, []int64{1, 2, 3, 4, 77}) || !slices.Equal(flags, []bool{true, false, true, true, true}) || !slices.Equal(nums, []complex128{1, 2, 0.5, 4, 77}) {
		t.Errorf("changed: %v %v %v %v", room, ints, flags, nums)
	}
	for i := range room {
		room[i] = -1
	}
	for i := range ints {
		ints[i], flags[i], nums[i] = -1, false, -1
	}
	wantTensor(t, "OfInts", a, Tensor{"a", kind.Int, dims(2, 2), int64s(1, 2, 3, 4)})
	wantTensor(t, "OfFlags", b, Tensor{"b", kind.Flag, dims(2, 2), "\x01\x00\x01\x01"})
	wantTensor(t, "OfNums", c, Tensor{"c", kind.Gauss, dims(2, 2), float32s(1, 0, 2, 0, 0, 0, 4, 0)})
}

// R3: the Dims of an answer share nothing with what was handed in, not even the room behind their end.
func TestDimsAreNewMemory(t *testing.T) {
	for n := range 9 {
		given := repeat(1, n+1)[:n]
		for _, u := range []Tensor{OfInts("a", given, 1), OfFlags("a", given, true), OfNums("a", given, 1)} {
			whole := u.Dims[:cap(u.Dims)]
			for i := range whole {
				whole[i] = -1
			}
		}
		if !slices.Equal(given[:n+1], repeat(1, n+1)) {
			t.Errorf("the dimensions handed in are %v now", given[:n+1])
		}
	}
}

// R3, R5: what is answered is new each time, and no call changes its receiver, nor the room behind its Dims.
func TestAnswersAreNewEachTime(t *testing.T) {
	u := OfInts("a", dims(3), 1, 2, 3)
	first, _ := u.Ints()
	second, _ := u.Ints()
	for i := range first[:cap(first)] {
		first[:cap(first)][i] = -1
	}
	if !slices.Equal(second, []int64{1, 2, 3}) {
		t.Errorf("a second answer is %v, when the first one is changed", second)
	}
	wantInts(t, u, []int64{1, 2, 3}, api.OK)
	for _, odd := range oddTensors() {
		room := append(slices.Clone(odd.Dims), 77, 78)
		odd.Dims = room[:len(room)-2]
		was := clone(odd)
		for range 2 {
			odd.Check()
			odd.Same(odd)
			odd.Elem(0)
			odd.Ints()
			odd.Flags()
			odd.Nums()
		}
		if !alike(odd, was) || room[len(room)-2] != 77 || room[len(room)-1] != 78 {
			t.Errorf("%s is changed", brief(odd))
		}
		if odd.Check() != was.Check() {
			t.Errorf("%s: Check tells another thing", brief(odd))
		}
	}
}
