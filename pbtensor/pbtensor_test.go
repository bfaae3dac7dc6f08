package pbtensor

import (
	"encoding/binary"
	"math"
	"regexp"
	"slices"
	"strconv"
	"strings"
	"testing"

	"agate/api"
	"agate/kind"
	"agate/pack"
	"agate/shape"
	"agate/store"
	"agate/tensor"
	"agate/wire"
)

// right is the beginning of a message of two whole numbers, which lacks them.
const right = "\x0a\x01\x02" + "\x10\x07" + "\x42\x01a"

// dims is a list of numbers, shorter to write.
func dims(l ...int64) []int64 { return l }

// head is a message's Dims, Kind, and a right Name.
func head(k kind.Kind, l ...int64) string {
	return pack.Put(1, l) + wire.Number(2, uint64(k)) + wire.Text(8, "a")
}

// row is a packed field of numbers.
func row(num int, l ...int64) string { return pack.Put(num, l) }

// pair is a field of a key and a value.
func pair(key, value string) string { return wire.Text(13, wire.Text(1, key)+wire.Text(2, value)) }

// filed is a message of whole numbers, so many, that are in a file.
func filed(n int64, beside ...string) string {
	return head(kind.Int, n) + wire.Number(14, 1) + strings.Join(beside, "")
}

// int64s are the bytes of such, one behind the other.
func int64s(l ...int64) string {
	var b []byte
	for _, n := range l {
		b = binary.LittleEndian.AppendUint64(b, uint64(n))
	}
	return string(b)
}

// float32s are the bytes of such, one behind the other.
func float32s(l ...float32) string {
	var b []byte
	for _, f := range l {
		b = binary.LittleEndian.AppendUint32(b, math.Float32bits(f))
	}
	return string(b)
}

// files is a store with some whole numbers, and others.
func files(t testing.TB) store.Store {
	t.Helper()
	s, e := store.New(
		store.File{Key: "w/a.bin", Data: int64s(1, -2, 3, math.MaxInt64)},
		store.File{Key: "b", Data: "0123456789abcdef"},
		store.File{Key: "empty", Data: ""},
		store.File{Key: "flags", Data: "\x00\x01\x02"},
		store.File{Key: "nums", Data: float32s(1, 2, 0.5, 0)},
	)
	if e != api.OK {
		t.Fatal(e)
	}
	return s
}

// rule answers numbers below n, the same each time.
func rule() func(n uint64) uint64 {
	x := uint64(1)
	return func(n uint64) uint64 {
		x = x*6364136223846793005 + 1442695040888963407
		return x >> 33 % n
	}
}

// alike says field by field whether two tensors are so.
func alike(a, b tensor.Tensor) bool {
	return a.Name == b.Name && a.Kind == b.Kind && slices.Equal(a.Dims, b.Dims) && a.Data == b.Data
}

// brief is a text to tell of.
func brief(s string) string {
	return strconv.Quote(s[:min(len(s), 120)]) + " of " + strconv.Itoa(len(s))
}

// short is a tensor to tell of.
func short(t tensor.Tensor) string {
	var l []string
	for _, d := range t.Dims {
		l = append(l, strconv.FormatInt(d, 10))
	}
	return t.Kind.String() + " " + brief(t.Name) + " [" + strings.Join(l, " ") + "] " + brief(t.Data)
}

func wantRead(t *testing.T, b string, s store.Store, want tensor.Tensor) {
	t.Helper()
	if got, e := Read(b, s); e != api.OK || !alike(got, want) {
		t.Errorf("Read(%s) is %s, %v; want %s, ok", brief(b), short(got), e, short(want))
	}
}

func wantReadError(t *testing.T, b string, s store.Store, want api.Errno) {
	t.Helper()
	if got, e := Read(b, s); e != want || !alike(got, tensor.Tensor{}) {
		t.Errorf("Read(%s) is %s, %v; want the zero one, %v", brief(b), short(got), e, want)
	}
}

func wantPut(t *testing.T, u tensor.Tensor, want string, wantE api.Errno) {
	t.Helper()
	if got, e := Put(u); got != want || e != wantE {
		t.Errorf("Put(%s) is %s, %v; want %s, %v", short(u), brief(got), e, brief(want), wantE)
	}
}

// P9.1: the chapter's example.
func TestExample(t *testing.T) {
	const b = "\x0a\x01\x01" + "\x10\x07" + "\x42\x01\x61" + "\x4a\x08\x05\x00\x00\x00\x00\x00\x00\x00"
	u := tensor.OfInts("a", dims(1), 5)
	wantPut(t, u, b, api.OK)
	wantRead(t, b, store.Store{}, u)
}

// P9.1: the least writing, byte by byte.
func TestWritings(t *testing.T) {
	wantPut(t, tensor.OfInts("x", nil, -1), "\x10\x07\x42\x01x\x4a\x08\xff\xff\xff\xff\xff\xff\xff\xff", api.OK)
	wantPut(t, tensor.OfInts("x", dims(0)), "\x0a\x01\x00\x10\x07\x42\x01x\x4a\x00", api.OK)
	wantPut(t, tensor.OfFlags("x!~", dims(1, 2), true, false), "\x0a\x02\x01\x02\x10\x09\x42\x03x!~\x4a\x02\x01\x00", api.OK)
	wantPut(t, tensor.OfNums("x", dims(1), complex(1, -2)), "\x0a\x01\x01\x10\x0e\x42\x01x\x4a\x08\x00\x00\x80\x3f\x00\x00\x00\xc0", api.OK)
	wantPut(t, tensor.Tensor{Name: "x", Kind: kind.Float, Dims: dims(1), Data: "\xff\xff\xff\xff"}, "\x0a\x01\x01\x10\x01\x42\x01x\x4a\x04\xff\xff\xff\xff", api.OK)
	bytes := strings.Repeat("\xff", 300)
	wantPut(t, tensor.Tensor{Name: "x", Kind: kind.Byte, Dims: dims(300, 1), Data: bytes}, "\x0a\x03\xac\x02\x01\x10\x02\x42\x01x\x4a\xac\x02"+bytes, api.OK)
	name := strings.Repeat("n", 64)
	wantPut(t, tensor.Tensor{Name: name, Kind: kind.Byte, Dims: dims(1, 1, 1, 1, 1, 1, 1, 1), Data: "\x00"}, "\x0a\x08\x01\x01\x01\x01\x01\x01\x01\x01\x10\x02\x42\x40"+name+"\x4a\x01\x00", api.OK)
}

// wrongTensors are such as may not be, each with what Check tells first.
func wrongTensors() map[api.Errno][]tensor.Tensor {
	long := strings.Repeat("n", 65)
	return map[api.Errno][]tensor.Tensor{
		api.ErrName:  {{}, {Name: " ", Kind: kind.Byte, Data: "x"}, {Name: long, Kind: kind.Byte, Data: "x"}, {Kind: 3, Dims: dims(-1)}},
		api.ErrKind:  {{Name: "a"}, {Name: "a", Kind: 3, Data: "x"}, {Name: "a", Kind: -1, Dims: dims(-1)}, {Name: "a", Kind: math.MaxInt}},
		api.ErrShape: {{Name: "a", Kind: kind.Byte, Dims: dims(-1)}, {Name: "a", Kind: kind.Byte, Dims: make([]int64, 9)}},
		api.ErrSize:  {{Name: "a", Kind: kind.Byte, Dims: dims(65537)}, {Name: "a", Kind: kind.Byte, Dims: dims(0, 65537)}},
		api.ErrForm:  {{Name: "a", Kind: kind.Byte}, {Name: "a", Kind: kind.Int, Dims: dims(1), Data: "1234567"}, {Name: "a", Kind: kind.Flag, Data: "\x02\x02"}},
		api.ErrValue: {{Name: "a", Kind: kind.Flag, Data: "\x02"}, {Name: "a", Kind: kind.Gauss, Data: float32s(0.5, 0)}},
	}
}

// P9.1: what may not be isn't written: Check's error.
func TestPutOfWrongTensors(t *testing.T) {
	for want, l := range wrongTensors() {
		for _, u := range l {
			if e := u.Check(); e != want {
				t.Fatalf("Check of %s is %v; want %v", short(u), e, want)
			}
			wantPut(t, u, "", want)
		}
	}
}

// rightTensors are such as may be, of all kinds, small ones and the greatest.
func rightTensors() []tensor.Tensor {
	l := []tensor.Tensor{
		tensor.OfInts("a", nil, 5),
		tensor.OfInts("a", dims(0)),
		tensor.OfInts("a", dims(65536, 0, 65536)),
		tensor.OfInts("a", dims(2, 1, 2), math.MaxInt64, math.MinInt64, -1, 0),
		tensor.OfInts(strings.Repeat("~", 64), make([]int64, 8)),
		tensor.OfInts("!", slices.Repeat(dims(4), 8), make([]int64, 65536)...),
		tensor.OfFlags("a", nil, true),
		tensor.OfFlags("a", dims(3), true, false, true),
		tensor.OfFlags("a", dims(256, 256), make([]bool, 65536)...),
		tensor.OfNums("a", dims(2), complex(1<<20, -1<<20), 0),
		tensor.OfNums("a", dims(65536), slices.Repeat([]complex128{complex(3, -4)}, 65536)...),
	}
	for _, k := range kind.All() {
		l = append(l, tensor.Tensor{Name: "z", Kind: k, Dims: dims(3, 0)})
		l = append(l, tensor.Tensor{Name: "z", Kind: k, Dims: dims(65536), Data: strings.Repeat("\x00", 65536*k.Size())})
	}
	var all strings.Builder
	for i := range 256 {
		all.WriteByte(byte(i))
	}
	l = append(l, tensor.Tensor{Name: "b", Kind: kind.Byte, Dims: dims(256), Data: all.String()})
	return append(l, tensor.Tensor{Name: "f", Kind: kind.Float, Dims: dims(64), Data: all.String()})
}

// P9.2: whatever the store is.
func TestWhatIsPutIsRead(t *testing.T) {
	for _, u := range rightTensors() {
		b, e := Put(u)
		if e != api.OK {
			t.Errorf("Put(%s) is %v", short(u), e)
			continue
		}
		wantRead(t, b, store.Store{}, u)
		wantRead(t, b, files(t), u)
	}
}

// P9.1: the fields are found in any order.
func TestFieldsInAnyOrder(t *testing.T) {
	l := []string{row(1, 2), wire.Number(2, 7), wire.Text(8, "a"), wire.Text(9, int64s(5, 6)), wire.Number(14, 0)}
	for range len(l) {
		l = append(l[1:], l[0])
		wantRead(t, strings.Join(l, ""), store.Store{}, tensor.OfInts("a", dims(2), 5, 6))
	}
	slices.Reverse(l)
	wantRead(t, strings.Join(l, ""), store.Store{}, tensor.OfInts("a", dims(2), 5, 6))
}

// P9.1: of the fields that stand for one thing, the last one counts, whatever those ahead are.
func TestLastFieldsCount(t *testing.T) {
	data := wire.Text(9, int64s(5, 6))
	want := tensor.OfInts("a", dims(2), 5, 6)
	for _, ahead := range []string{
		wire.Number(2, 3), wire.Number(2, 9), wire.Text(2, "x"), wire.Text(8, ""), wire.Text(8, "other"), wire.Number(8, 5),
		wire.Text(9, ""), wire.Text(9, "x"), wire.Number(9, 5), wire.Field{Num: 9, Type: 1}.Bytes(), wire.Field{Num: 2, Type: 5}.Bytes(),
		wire.Number(14, 1) + wire.Number(14, 0), wire.Number(14, 5) + wire.Number(14, 0), wire.Text(14, "x") + wire.Number(14, 0),
	} {
		wantRead(t, ahead+right+data, store.Store{}, want)
		wantRead(t, ahead+ahead+right+data, store.Store{}, want)
	}
	full := right + data + wire.Number(14, 0)
	wantRead(t, full+wire.Text(8, "b"), store.Store{}, tensor.OfInts("b", dims(2), 5, 6))
	wantRead(t, full+wire.Text(9, int64s(7, 8)), store.Store{}, tensor.OfInts("a", dims(2), 7, 8))
	wantReadError(t, full+wire.Text(8, ""), store.Store{}, api.ErrName)
	wantReadError(t, full+wire.Number(2, 0), store.Store{}, api.ErrKind)
	wantReadError(t, full+wire.Number(2, 1), store.Store{}, api.ErrForm)
	wantReadError(t, full+wire.Text(9, ""), store.Store{}, api.ErrForm)
	wantReadError(t, full+wire.Number(14, 1), store.Store{}, api.ErrForm)
	wantReadError(t, full+wire.Number(14, 2), store.Store{}, api.ErrForm)
}

// P9.1: other fields count for nothing, whatever they are.
func TestOtherFieldsCountForNothing(t *testing.T) {
	full := right + wire.Text(9, int64s(5, 6))
	for _, num := range []int{3, 4, 6, 10, 11, 12, 15, 16, 17, 21, 128, 256 + 2, 1<<29 - 1} {
		for _, typ := range []int{0, 1, 2, 5} {
			b := wire.Field{Num: num, Type: typ, N: 1, Data: "\x80"}.Bytes()
			if typ == 2 {
				b = wire.Text(num, "\x80")
			}
			wantRead(t, b+full, store.Store{}, tensor.OfInts("a", dims(2), 5, 6))
			wantRead(t, full+b+b, store.Store{}, tensor.OfInts("a", dims(2), 5, 6))
		}
	}
}

// P9.1: Dims is a row, which may be cut into any fields, and may be none.
func TestDims(t *testing.T) {
	rest := wire.Number(2, 7) + wire.Text(8, "a")
	six := wire.Text(9, int64s(1, 2, 3, 4, 5, 6))
	want := tensor.OfInts("a", dims(2, 3), 1, 2, 3, 4, 5, 6)
	for _, b := range []string{row(1, 2, 3), wire.Number(1, 2) + wire.Number(1, 3), row(1, 2) + row(1, 3), wire.Number(1, 2) + wire.Text(1, "") + wire.Text(1, "\x83\x00")} {
		wantRead(t, b+rest+six, store.Store{}, want)
		wantRead(t, rest+six+b, store.Store{}, want)
	}
	wantRead(t, wire.Number(1, 2)+rest+six+wire.Number(1, 3), store.Store{}, want)
	for _, b := range []string{"", wire.Text(1, ""), wire.Text(1, "") + wire.Text(1, "")} {
		wantRead(t, b+rest+wire.Text(9, int64s(5)), store.Store{}, tensor.OfInts("a", nil, 5))
	}
}

// P9.1: elements as their bytes, of all kinds.
func TestElementsOfBytes(t *testing.T) {
	for k, data := range map[kind.Kind]string{
		kind.Float: "\xff\xff\xff\xff\x00\x00\xc0\x7f",
		kind.Byte:  "\x00\xff",
		kind.Int:   int64s(math.MinInt64, 2),
		kind.Flag:  "\x01\x00",
		kind.Gauss: float32s(1, -1, 1<<20, 0),
	} {
		want := tensor.Tensor{Name: "a", Kind: k, Dims: dims(2), Data: data}
		wantRead(t, head(k, 2)+wire.Text(9, data), store.Store{}, want)
		wantRead(t, head(k, 2)+wire.Text(9, data)+wire.Text(5, "")+wire.Text(7, ""), store.Store{}, want)
		wantReadError(t, head(k, 3)+wire.Text(9, data), store.Store{}, api.ErrForm)
		wantReadError(t, head(k, 1)+wire.Text(9, data), store.Store{}, api.ErrForm)
		wantReadError(t, head(k, 2)+wire.Text(9, data[1:]), store.Store{}, api.ErrForm)
		wantReadError(t, head(k, 2)+wire.Text(9, ""), store.Store{}, api.ErrForm)
		wantReadError(t, head(k, 2), store.Store{}, api.ErrForm)
		wantReadError(t, head(k), store.Store{}, api.ErrForm)
		empty := tensor.Tensor{Name: "a", Kind: k, Dims: dims(2, 0)}
		wantRead(t, head(k, 2, 0), store.Store{}, empty)
		wantRead(t, head(k, 2, 0)+wire.Text(9, ""), store.Store{}, empty)
		wantRead(t, head(k, 2, 0)+wire.Text(5, "")+wire.Text(7, ""), store.Store{}, empty)
	}
	wantReadError(t, head(kind.Flag, 2)+wire.Text(9, "\x00\x02"), store.Store{}, api.ErrValue)
	wantReadError(t, head(kind.Flag, 1)+wire.Text(9, "\x00\x02"), store.Store{}, api.ErrForm)
	wantReadError(t, head(kind.Gauss, 1)+wire.Text(9, float32s(1, 0.5)), store.Store{}, api.ErrValue)
	wantReadError(t, head(kind.Gauss, 1)+wire.Text(9, float32s(1<<21, 0)), store.Store{}, api.ErrValue)
}

// P9.1: elements of Int in a row, which may be cut into any fields.
func TestElementsOfIntRow(t *testing.T) {
	l := []int64{math.MinInt64, -1, 0, 1, 255, 256, math.MaxInt64}
	want := tensor.OfInts("a", dims(7), l...)
	wantRead(t, head(kind.Int, 7)+row(7, l...), store.Store{}, want)
	for cut := range l {
		wantRead(t, row(7, l[:cut]...)+head(kind.Int, 7)+row(7, l[cut:]...)+wire.Text(5, ""), store.Store{}, want)
		wantReadError(t, head(kind.Int, 7)+row(7, l[:cut]...), store.Store{}, api.ErrForm)
	}
	var single strings.Builder
	for _, n := range l {
		single.WriteString(wire.Number(7, uint64(n)))
	}
	wantRead(t, head(kind.Int, 7)+single.String(), store.Store{}, want)
	wantReadError(t, head(kind.Int, 7)+single.String()+wire.Number(7, 1), store.Store{}, api.ErrForm)
	wantRead(t, head(kind.Int)+wire.Number(7, 9), store.Store{}, tensor.OfInts("a", nil, 9))
	wantReadError(t, head(kind.Int, 0)+wire.Number(7, 9), store.Store{}, api.ErrForm)
	most := make([]int64, api.MaxElems)
	most[api.MaxElems-1] = -5
	wantRead(t, head(kind.Int, api.MaxElems)+row(7, most...), store.Store{}, tensor.OfInts("a", dims(api.MaxElems), most...))
}

// P9.1: elements of Byte and Flag in a row.
func TestElementsOfSmallRow(t *testing.T) {
	var all []int64
	var data strings.Builder
	for i := range 256 {
		all = append(all, int64(i))
		data.WriteByte(byte(i))
	}
	want := tensor.Tensor{Name: "a", Kind: kind.Byte, Dims: dims(256), Data: data.String()}
	wantRead(t, head(kind.Byte, 256)+row(5, all...), store.Store{}, want)
	wantRead(t, row(5, all[:100]...)+head(kind.Byte, 256)+wire.Number(5, 100)+row(5, all[101:]...)+wire.Text(7, ""), store.Store{}, want)
	wantRead(t, head(kind.Flag, 3)+row(5, 1, 0)+wire.Number(5, 1), store.Store{}, tensor.OfFlags("a", dims(3), true, false, true))
	wantRead(t, head(kind.Flag)+wire.Number(5, 0), store.Store{}, tensor.OfFlags("a", nil, false))
	for _, k := range []kind.Kind{kind.Byte, kind.Flag} {
		wantReadError(t, head(k, 2)+row(5, 1), store.Store{}, api.ErrForm)
		wantReadError(t, head(k, 2)+row(5, 1, 1, 1), store.Store{}, api.ErrForm)
		wantReadError(t, head(k, 0)+row(5, 1), store.Store{}, api.ErrForm)
	}
	most := make([]int64, api.MaxElems)
	wantRead(t, head(kind.Byte, api.MaxElems)+row(5, most...), store.Store{}, tensor.Tensor{Name: "a", Kind: kind.Byte, Dims: dims(api.MaxElems), Data: strings.Repeat("\x00", api.MaxElems)})
}

// P9.1: a number of the row 5 that is too great, or below 0, is told ahead of there being too few or too many.
func TestElementsOfSmallRowThatMayNotBe(t *testing.T) {
	for _, n := range []int64{-1, -256, -255, 256, 257, 1 << 8 << 8, 1 << 32, 1<<32 + 1, math.MaxInt64, math.MinInt64, math.MinInt64 + 1} {
		for _, k := range []kind.Kind{kind.Byte, kind.Flag} {
			for _, l := range [][]int64{{n}, {0, n}, {n, 1}, {0, 1, n, 1}} {
				wantReadError(t, head(k, int64(len(l)))+row(5, l...), store.Store{}, api.ErrValue)
				wantReadError(t, head(k, 3, 3)+row(5, l...), store.Store{}, api.ErrValue)
				wantReadError(t, head(k, 0)+row(5, l...), store.Store{}, api.ErrValue)
			}
		}
	}
	for _, n := range []int64{2, 3, 9, 127, 128, 255} {
		wantReadError(t, head(kind.Flag, 2)+row(5, 1, n), store.Store{}, api.ErrValue)
		wantReadError(t, head(kind.Flag, 9)+row(5, 1, n), store.Store{}, api.ErrValue)
		wantRead(t, head(kind.Byte, 1)+row(5, n), store.Store{}, tensor.Tensor{Name: "a", Kind: kind.Byte, Dims: dims(1), Data: string([]byte{byte(n)})})
	}
}

// P9.1: rows of another kind than the tensor's, without a field 9; with one, any number is too much.
func TestRowsOfOtherKinds(t *testing.T) {
	for _, k := range kind.All() {
		small, whole := api.ErrKind, api.ErrKind
		if k == kind.Byte || k == kind.Flag {
			small = api.OK
		}
		if k == kind.Int {
			whole = api.OK
		}
		for b, want := range map[string]api.Errno{row(5, 1): small, row(7, 1): whole, row(5, 1) + row(7, 1): api.ErrKind} {
			if want != api.OK {
				wantReadError(t, head(k, 1)+b, store.Store{}, want)
				wantReadError(t, head(k, 0)+b, store.Store{}, want)
				wantReadError(t, head(k, 5)+b, store.Store{}, want)
			}
			for _, data := range []string{"", strings.Repeat("\x00", k.Size()), "xyz"} {
				wantReadError(t, head(k, 1)+b+wire.Text(9, data), store.Store{}, api.ErrForm)
				wantReadError(t, wire.Text(9, data)+b+head(k, 0), store.Store{}, api.ErrForm)
			}
		}
	}
	wantReadError(t, head(kind.Int, 1)+row(5, -1)+row(7, 1), store.Store{}, api.ErrKind)
	wantReadError(t, head(kind.Byte, 1)+row(5, 256)+row(7, 1), store.Store{}, api.ErrKind)
	wantReadError(t, head(kind.Byte, 1)+row(5, 256)+wire.Text(9, "x"), store.Store{}, api.ErrForm)
}

// P9.1: a message that is none, or too long.
func TestErrorsOfMessages(t *testing.T) {
	full := right + wire.Text(9, int64s(5, 6))
	for n := 1; n < len(full); n++ {
		if _, e := wire.Fields(full[:n]); e != api.OK {
			wantReadError(t, full[:n], store.Store{}, e)
		}
	}
	wantReadError(t, full+"\x80", store.Store{}, api.ErrShort)
	wantReadError(t, full+"\x4a\x05\x00", store.Store{}, api.ErrShort)
	wantReadError(t, full+strings.Repeat("\x80", 10), store.Store{}, api.ErrLong)
	wantReadError(t, full+"\x0b", store.Store{}, api.ErrWire)
	wantReadError(t, full+"\x00\x00", store.Store{}, api.ErrWire)
	wantReadError(t, "", store.Store{}, api.ErrName)
	fill := wire.Text(100, strings.Repeat("x", api.MaxBytes-len(full)-5))
	wantRead(t, full+fill, store.Store{}, tensor.OfInts("a", dims(2), 5, 6))
	if len(full+fill) != api.MaxBytes {
		t.Fatalf("the longest message has %d bytes", len(full+fill))
	}
	wantReadError(t, full+wire.Text(100, strings.Repeat("x", api.MaxBytes-len(full)-4)), store.Store{}, api.ErrLong)
}

// P9.1: each field that counts is of its Type.
func TestErrorsOfTypes(t *testing.T) {
	full := right + wire.Text(9, int64s(5, 6)) + wire.Number(14, 0)
	for num, may := range map[int]int{2: 0, 8: 2, 9: 2, 14: 0} {
		for _, typ := range []int{0, 1, 2, 5} {
			b := wire.Field{Num: num, Type: typ, N: 7, Data: "a"}.Bytes()
			if typ != may {
				wantReadError(t, full+b, store.Store{}, api.ErrWire)
				wantReadError(t, b, store.Store{}, api.ErrWire)
				wantReadError(t, full+b+"\x80", store.Store{}, api.ErrShort)
			}
		}
	}
	for _, num := range []int{1, 5, 7, 13} {
		for _, typ := range []int{0, 1, 2, 5} {
			b := wire.Field{Num: num, Type: typ, N: 1, Data: "\x01"}.Bytes()
			if typ%4 == 1 || num == 13 && typ == 0 {
				wantReadError(t, b+full, store.Store{}, api.ErrWire)
				wantReadError(t, full+b+row(num, 1), store.Store{}, api.ErrWire)
			}
		}
	}
}

// P9.1: rows that are none, in their order.
func TestErrorsOfRows(t *testing.T) {
	full := right + wire.Text(9, int64s(5, 6))
	typ := func(num int) string { return wire.Field{Num: num, Type: 5}.Bytes() }
	cut := func(num int) string { return wire.Text(num, "\x80") }
	long := func(num int) string { return wire.Text(num, strings.Repeat("\x80", 10)) }
	many := func(num int) string { return row(num, make([]int64, api.MaxElems+1)...) }
	for _, num := range []int{1, 5, 7} {
		wantReadError(t, full+typ(num), store.Store{}, api.ErrWire)
		wantReadError(t, full+cut(num), store.Store{}, api.ErrShort)
		wantReadError(t, full+long(num), store.Store{}, api.ErrLong)
		wantReadError(t, full+many(num), store.Store{}, api.ErrSize)
	}
	for _, l := range [][2]int{{1, 5}, {1, 7}, {5, 7}, {1, 13}, {5, 13}, {7, 13}} {
		first, second := l[0], l[1]
		wantReadError(t, typ(second)+full+long(first), store.Store{}, api.ErrLong)
		wantReadError(t, typ(second)+full+many(first), store.Store{}, api.ErrSize)
		if second != 13 {
			wantReadError(t, many(second)+full+cut(first), store.Store{}, api.ErrShort)
			wantReadError(t, cut(second)+full+typ(first), store.Store{}, api.ErrWire)
		}
	}
}

// P9.1: where the elements are is here or in a file, else nowhere.
func TestErrorsOfWhere(t *testing.T) {
	full := right + wire.Text(9, int64s(5, 6))
	wantRead(t, full+wire.Number(14, 0), store.Store{}, tensor.OfInts("a", dims(2), 5, 6))
	for _, n := range []uint64{2, 3, 7, 255, 256, 257, 1 << 31, 1 << 32, 1<<32 + 1, 1 << 62, 1<<63 - 1, 1 << 63, 1<<63 + 1, math.MaxUint64 - 1, math.MaxUint64} {
		wantReadError(t, full+wire.Number(14, n), files(t), api.ErrForm)
		wantReadError(t, right+pair("location", "w/a.bin")+wire.Number(14, n), files(t), api.ErrForm)
	}
	wantReadError(t, wire.Number(14, 2), store.Store{}, api.ErrForm)
}

// P9.1
func TestErrorsOfNamesKindsAndShapes(t *testing.T) {
	data := wire.Text(9, int64s(5, 6))
	for _, where := range []string{"", wire.Number(14, 0), wire.Number(14, 1)} {
		for _, name := range []string{"", " ", "a b", "\x7f", "ä", "a\n", strings.Repeat("a", 65), strings.Repeat("a", 256+1)} {
			wantReadError(t, right+data+where+wire.Text(8, name), store.Store{}, api.ErrName)
			wantReadError(t, right+data+where+wire.Text(8, name)+wire.Number(2, 3)+row(1, -1), store.Store{}, api.ErrName)
		}
		for _, n := range []uint64{0, 3, 4, 5, 6, 8, 10, 11, 12, 13, 15, 16, 256 + 7, 1<<32 + 7, 1<<63 + 7, 1<<63 - 1, 1 << 63, math.MaxUint64 - 6, math.MaxUint64} {
			wantReadError(t, right+data+where+wire.Number(2, n), store.Store{}, api.ErrKind)
			wantReadError(t, right+data+where+wire.Number(2, n)+row(1, -1), store.Store{}, api.ErrKind)
		}
		for _, l := range [][]int64{{-1}, {0, -1}, {65537, -1}, {math.MinInt64}, make([]int64, 9), make([]int64, 300)} {
			wantReadError(t, head(kind.Int, l...)+data+where, store.Store{}, api.ErrShape)
		}
		for _, l := range [][]int64{{65537}, {2, 32769}, {0, 65537}, {65537, 0}, {math.MaxInt64}, {1 << 32, 1 << 32}, {256, 256, 2}} {
			wantReadError(t, head(kind.Int, l...)+data+where, store.Store{}, api.ErrSize)
		}
	}
	wantReadError(t, row(1, 2)+wire.Number(2, 7)+data, store.Store{}, api.ErrName)
	wantReadError(t, row(1, 2)+wire.Text(8, "a")+data, store.Store{}, api.ErrKind)
}

// P9.1: elements in a file, from an offset on.
func TestElementsInFiles(t *testing.T) {
	s := files(t)
	at := pair("location", "w/a.bin")
	all := []int64{1, -2, 3, math.MaxInt64}
	wantRead(t, filed(4, at), s, tensor.OfInts("a", dims(4), all...))
	for n := range len(all) + 1 {
		for from := range len(all) - n + 1 {
			o, size := pair("offset", strconv.Itoa(8*from)), pair("length", strconv.Itoa(8*n))
			want := tensor.OfInts("a", dims(int64(n)), all[from:from+n]...)
			wantRead(t, filed(int64(n), at, o), s, want)
			wantRead(t, filed(int64(n), size, o, at), s, want)
			wantRead(t, o+at+size+filed(int64(n)), s, want)
		}
	}
	text := func(k kind.Kind, d int64, data string) tensor.Tensor {
		return tensor.Tensor{Name: "a", Kind: k, Dims: dims(d), Data: data}
	}
	in := wire.Number(14, 1)
	wantRead(t, head(kind.Byte, 5)+in+pair("location", "b")+pair("offset", "11"), s, text(kind.Byte, 5, "bcdef"))
	wantRead(t, head(kind.Float, 1)+in+pair("location", "b")+pair("offset", "9")+pair("length", "4"), s, text(kind.Float, 1, "9abc"))
	wantRead(t, head(kind.Flag, 2)+in+pair("location", "flags"), s, text(kind.Flag, 2, "\x00\x01"))
	wantRead(t, head(kind.Gauss, 1)+in+pair("location", "nums"), s, tensor.OfNums("a", dims(1), complex(1, 2)))
	wantRead(t, head(kind.Int)+in+at, s, tensor.OfInts("a", nil, 1))
	wantRead(t, filed(0, pair("location", "empty"), pair("offset", "0"), pair("length", "0")), s, tensor.OfInts("a", dims(0)))
	wantRead(t, filed(0, at, pair("offset", "32")), s, tensor.OfInts("a", dims(0)))
	wantRead(t, filed(2, at)+wire.Text(5, "")+wire.Text(7, ""), s, tensor.OfInts("a", dims(2), 1, -2))
}

// P9.1: as many elements as may be.
func TestMostElementsInFiles(t *testing.T) {
	l := make([]int64, api.MaxElems)
	l[0], l[api.MaxElems-1] = 1, -1
	s, e := store.New(store.File{Key: "big", Data: "abc" + int64s(l...) + "d"})
	if e != api.OK {
		t.Fatal(e)
	}
	b := filed(api.MaxElems, pair("location", "big"), pair("offset", "3"), pair("length", "524288"))
	wantRead(t, b, s, tensor.OfInts("a", dims(api.MaxElems), l...))
}

// P9.1: of alike keys, and of alike fields in one text, the last one counts; others count for nothing.
func TestKeysInFiles(t *testing.T) {
	s := files(t)
	at, want := pair("location", "w/a.bin"), tensor.OfInts("a", dims(1), -2)
	from, size := pair("offset", "8"), pair("length", "8")
	wantRead(t, filed(1, pair("location", "none"), pair("location", "/"), at, from), s, want)
	wantRead(t, filed(1, pair("offset", "x"), pair("offset", ""), at, pair("length", "-8"), pair("length", "9"), from, size), s, want)
	wantReadError(t, filed(1, at, from, pair("location", "none")), s, api.ErrMissing)
	wantReadError(t, filed(1, at, from, pair("offset", "x")), s, api.ErrValue)
	wantReadError(t, filed(1, at, from, size, pair("length", "7")), s, api.ErrSize)
	wantRead(t, filed(1, at, pair("checksum", "x"), pair("", "x"), pair("Offset", "1"), pair("offset ", "x"), pair("lengths", "x"), from, wire.Text(13, "")), s, want)
	for _, more := range []string{wire.Text(1, "other"), wire.Text(2, "x"), wire.Number(1, 5), wire.Number(2, 5), wire.Field{Num: 2, Type: 1}.Bytes()} {
		wantRead(t, filed(1, from, wire.Text(13, more+wire.Text(2, "w/a.bin")+wire.Text(1, "location"))), s, want)
	}
	for _, typ := range []int{0, 1, 5} {
		other := wire.Field{Num: 3, Type: typ, N: 1}.Bytes()
		wantRead(t, filed(1, from, wire.Text(13, other+wire.Text(1, "location")+wire.Text(2, "w/a.bin")+other)), s, want)
	}
}

// P9.1: a key or a value that isn't there is empty.
func TestKeysAndValuesThatAreNotThere(t *testing.T) {
	s := files(t)
	at := pair("location", "w/a.bin")
	only := func(num int, data string) string { return wire.Text(13, wire.Text(num, data)) }
	wantRead(t, filed(1, at, only(2, "x"), only(1, "other"), wire.Text(13, "")), s, tensor.OfInts("a", dims(1), 1))
	wantReadError(t, filed(1, only(1, "location")), s, api.ErrPath)
	wantReadError(t, filed(1, at, only(1, "location")), s, api.ErrPath)
	wantReadError(t, filed(1, at, only(1, "offset")), s, api.ErrValue)
	wantReadError(t, filed(1, at, only(1, "length")), s, api.ErrValue)
	wantReadError(t, filed(1, only(2, "w/a.bin")), s, api.ErrMissing)
	wantReadError(t, filed(1), s, api.ErrMissing)
}

// P9.1: digits, and all that isn't.
func TestDigits(t *testing.T) {
	s := files(t)
	at := pair("location", "w/a.bin")
	for _, d := range []string{
		"", "00", "01", "08", "008", "+8", "-8", "-0", " 8", "8 ", "8\n", "8.0", "8e0", "0x8", "0b1", "0o7", "1_6", "1,6", "x", "8x", "x8", "/", ":", "1/", "1:", "٨", "８", "\x00", "8\x00",
		"1000000000000000000", "9999999999999999999", "18446744073709551616", "18446744073709551624", "0000000000000000008", strings.Repeat("1", 1000), strings.Repeat("0", 18),
	} {
		wantReadError(t, filed(1, at, pair("offset", d)), s, api.ErrValue)
		wantReadError(t, filed(1, at, pair("length", d)), s, api.ErrValue)
		wantReadError(t, filed(1, pair("length", d), pair("location", "none"), pair("offset", "8")), s, api.ErrValue)
		wantReadError(t, filed(1, pair("length", "9"), pair("location", "none"), pair("offset", d)), s, api.ErrValue)
	}
	for c := range 256 {
		one := string([]byte{byte(c)})
		if c < '0' || c > '9' {
			wantReadError(t, filed(1, at, pair("offset", one)), s, api.ErrValue)
			wantReadError(t, filed(1, at, pair("offset", "1"+one)), s, api.ErrValue)
			continue
		}
		wantRead(t, head(kind.Byte, 1)+wire.Number(14, 1)+pair("location", "b")+pair("offset", one), s, tensor.Tensor{Name: "a", Kind: kind.Byte, Dims: dims(1), Data: one})
	}
	for _, d := range []string{"1", "9", "10", "999999999999999999", "100000000000000000", "4294967304"} {
		wantReadError(t, filed(1, at, pair("length", d)), s, api.ErrSize)
	}
	for _, d := range []string{"25", "33", "999999999999999999", "100000000000000000", "4294967304"} {
		wantReadError(t, filed(1, at, pair("offset", d)), s, api.ErrShort)
	}
}

// P9.1: a length, if there is one, is as many bytes as the elements have.
func TestLengths(t *testing.T) {
	s := files(t)
	for n := range int64(20) {
		b := head(kind.Float, 2) + wire.Number(14, 1) + pair("location", "b") + pair("length", strconv.FormatInt(n, 10))
		if n == 8 {
			wantRead(t, b, s, tensor.Tensor{Name: "a", Kind: kind.Float, Dims: dims(2), Data: "01234567"})
		} else {
			wantReadError(t, b, s, api.ErrSize)
		}
	}
	wantReadError(t, filed(1, pair("location", "none"), pair("length", "9")), s, api.ErrSize)
	wantReadError(t, filed(1, pair("location", "/"), pair("offset", "99"), pair("length", "0")), s, api.ErrSize)
}

// P9.1: layer 8's errors, and layer 7's behind them.
func TestErrorsOfFiles(t *testing.T) {
	s := files(t)
	for _, key := range []string{"", "/", "../w", "/w/a.bin", "w//a.bin", "w/a.bin/", " ", strings.Repeat("a", 256)} {
		wantReadError(t, filed(1, pair("location", key)), s, api.ErrPath)
		wantReadError(t, filed(0, pair("location", key)), s, api.ErrPath)
		wantReadError(t, filed(1, pair("location", key)), store.Store{}, api.ErrPath)
	}
	for _, key := range []string{"w", "a.bin", "W/a.bin", "none"} {
		wantReadError(t, filed(1, pair("location", key)), s, api.ErrMissing)
		wantReadError(t, filed(0, pair("location", key), pair("offset", "99")), s, api.ErrMissing)
	}
	wantReadError(t, filed(1, pair("location", "w/a.bin")), store.Store{}, api.ErrMissing)
	wantReadError(t, filed(5, pair("location", "w/a.bin")), s, api.ErrShort)
	wantReadError(t, filed(4, pair("location", "w/a.bin"), pair("offset", "1")), s, api.ErrShort)
	wantReadError(t, filed(0, pair("location", "w/a.bin"), pair("offset", "33")), s, api.ErrShort)
	wantReadError(t, filed(1, pair("location", "empty")), s, api.ErrShort)
	in := wire.Number(14, 1)
	wantReadError(t, head(kind.Flag, 3)+in+pair("location", "flags"), s, api.ErrValue)
	wantReadError(t, head(kind.Gauss, 1)+in+pair("location", "nums")+pair("offset", "8"), s, api.ErrValue)
	wantReadError(t, head(kind.Gauss, 1)+in+pair("location", "nums")+pair("offset", "1"), s, api.ErrValue)
}

// P9.1: no elements are here, if they are in a file, nor an empty text of them.
func TestErrorsOfElementsHereAndInFiles(t *testing.T) {
	s := files(t)
	for _, k := range kind.All() {
		b := head(k, 1) + wire.Number(14, 1) + pair("location", "w/a.bin")
		for _, more := range []string{wire.Text(9, ""), wire.Text(9, "x"), row(5, 1), row(5, -1), row(7, 1), wire.Text(9, "") + row(5, 1)} {
			wantReadError(t, b+more, s, api.ErrForm)
			wantReadError(t, more+b+pair("location", ""), s, api.ErrForm)
			wantReadError(t, more+b+wire.Text(13, "\x80"), s, api.ErrForm)
			wantReadError(t, more+head(k, 1)+wire.Number(14, 1), s, api.ErrForm)
		}
	}
}

// P9.1: the messages of keys and values, text by text.
func TestErrorsOfKeysAndValues(t *testing.T) {
	s := files(t)
	at := pair("location", "w/a.bin")
	faults := map[string]api.Errno{
		"\x80":                     api.ErrShort,
		"\x0a\x05abc":              api.ErrShort,
		strings.Repeat("\x80", 10): api.ErrLong,
		"\x0b":                     api.ErrWire,
		wire.Number(1, 5):          api.ErrWire,
		wire.Number(2, 5):          api.ErrWire,
		wire.Text(1, "location") + wire.Text(2, "x") + wire.Number(1, 5):                     api.ErrWire,
		wire.Text(1, "location") + wire.Text(2, "x") + wire.Number(2, 5):                     api.ErrWire,
		wire.Text(1, "other") + wire.Number(2, 5):                                            api.ErrWire,
		wire.Text(1, "other") + wire.Field{Num: 2, Type: 1}.Bytes():                          api.ErrWire,
		wire.Field{Num: 1, Type: 5}.Bytes() + wire.Text(2, "x"):                              api.ErrWire,
		wire.Text(1, "x") + wire.Number(1, 5) + "\x80":                                       api.ErrShort,
		wire.Text(1, "location") + wire.Text(2, "w/a.bin") + strings.Repeat("\xff", 9) + "*": api.ErrLong,
	}
	for b, want := range faults {
		bad := wire.Text(13, b)
		wantReadError(t, filed(1, bad), s, want)
		wantReadError(t, filed(1, at, bad), s, want)
		wantReadError(t, filed(1, bad, at), s, want)
		wantReadError(t, filed(1, pair("length", "x"), bad, at), s, want)
		wantRead(t, right+bad+wire.Text(9, int64s(5, 6)), s, tensor.OfInts("a", dims(2), 5, 6))
		for b, other := range faults {
			wantReadError(t, filed(1, at, bad, wire.Text(13, b)), s, want)
			wantReadError(t, filed(1, wire.Text(13, b), at, bad), s, other)
		}
	}
}

// P9.1: of elements here, the messages of keys and values count for nothing.
func TestKeysOfElementsHereCountForNothing(t *testing.T) {
	full := right + wire.Text(9, int64s(5, 6))
	want := tensor.OfInts("a", dims(2), 5, 6)
	wantRead(t, full+pair("location", "none")+pair("offset", "x")+pair("length", "1"), store.Store{}, want)
	wantRead(t, full+pair("location", "w/a.bin")+wire.Number(14, 0), files(t), want)
	wantReadError(t, right+pair("location", "w/a.bin"), files(t), api.ErrForm)
}

// P9.1: of several faults the one is told that the chapter names first.
func TestFirstFaults(t *testing.T) {
	type fault struct {
		b string
		e api.Errno
	}
	ahead := []fault{
		{"\x80", api.ErrShort},
		{wire.Text(2, "x"), api.ErrWire},
		{wire.Text(1, "\x80"), api.ErrShort},
		{row(5, make([]int64, api.MaxElems+1)...), api.ErrSize},
		{wire.Text(7, strings.Repeat("\x80", 10)), api.ErrLong},
		{wire.Number(13, 5), api.ErrWire},
		{wire.Number(14, 2), api.ErrForm},
		{wire.Text(8, ""), api.ErrName},
		{wire.Number(2, 3), api.ErrKind},
		{row(1, -1), api.ErrShape},
	}
	kinds := slices.Delete(slices.Clone(ahead), 8, 9)
	here := append(slices.Clone(ahead), fault{wire.Text(9, "") + row(5, 1), api.ErrForm})
	small := append(slices.Clone(kinds), fault{row(7, 1), api.ErrKind}, fault{row(5, 2), api.ErrValue}, fault{row(5, 1, 1, 1), api.ErrForm})
	in := append(slices.Clone(ahead),
		fault{row(7, 1), api.ErrForm}, fault{wire.Text(13, "\x80"), api.ErrShort}, fault{pair("length", "x"), api.ErrMissing})
	found := append(slices.Clone(ahead),
		fault{wire.Text(9, ""), api.ErrForm}, fault{wire.Text(13, wire.Number(2, 1)), api.ErrWire}, fault{pair("offset", "x"), api.ErrValue},
		fault{pair("length", "1"), api.ErrSize}, fault{pair("location", "."), api.ErrPath})
	for b, l := range map[string][]fault{
		head(kind.Flag, 2):                               small,
		right + wire.Text(9, int64s(5, 6)):               here,
		filed(1):                                         in,
		filed(9, pair("location", "w/a.bin")):            found,
		filed(9, pair("location", "none")) + row(1, 300): found,
	} {
		for i, first := range l {
			var all string
			for _, later := range l[i+1:] {
				wantReadError(t, b+later.b+first.b, files(t), first.e)
				all = later.b + all
			}
			wantReadError(t, b+all+first.b, files(t), first.e)
		}
	}
}

// R3: what is answered is new memory, and what is handed in stays as it is.
func TestNothingIsShared(t *testing.T) {
	s := files(t)
	for _, b := range []string{right + wire.Text(9, int64s(1, -2)), filed(2, pair("location", "w/a.bin"))} {
		want := tensor.OfInts("a", dims(2), 1, -2)
		u, e := Read(b, s)
		if e != api.OK {
			t.Fatal(e)
		}
		for i := range u.Dims[:cap(u.Dims)] {
			u.Dims[:cap(u.Dims)][i] = 99
		}
		wantRead(t, b, s, want)
	}
	room := dims(2, 1, 7, 8)
	b, e := Put(tensor.OfInts("a", nil, 5, 6))
	if b != "" || e != api.ErrForm {
		t.Errorf("Put of two elements in no shape is %s, %v", brief(b), e)
	}
	u := tensor.Tensor{Name: "a", Kind: kind.Byte, Dims: room[:2], Data: "xy"}
	for range 3 {
		wantPut(t, u, "\x0a\x02\x02\x01\x10\x02\x42\x01a\x4a\x02xy", api.OK)
	}
	if !slices.Equal(room, dims(2, 1, 7, 8)) {
		t.Errorf("the dimensions are %v now", room)
	}
}

// slowDigits is what the chapter says of digits, said another way.
var slowDigits = regexp.MustCompile(`\A(0|[1-9][0-9]{0,17})\z`)

// slowLast is the last field of a Num, and how many there are.
func slowLast(l []wire.Field, num int) (f wire.Field, n int) {
	for _, g := range l {
		if g.Num == num {
			f = g
			n++
		}
	}
	return f, n
}

// slowRead is what the chapter says of reading, one error behind the other.
func slowRead(b string, s store.Store) (tensor.Tensor, api.Errno) {
	none := tensor.Tensor{}
	l, e := wire.Fields(b)
	if e != api.OK {
		return none, e
	}
	for _, c := range [][2]int{{2, 0}, {8, 2}, {9, 2}, {14, 0}} {
		if f, n := slowLast(l, c[0]); n > 0 && f.Type != c[1] {
			return none, api.ErrWire
		}
	}
	rows := map[int][]int64{}
	for _, num := range []int{1, 5, 7} {
		if rows[num], e = pack.Ints(l, num); e != api.OK {
			return none, e
		}
	}
	texts, e := pack.Texts(l, 13)
	if e != api.OK {
		return none, e
	}
	where, _ := slowLast(l, 14)
	name, _ := slowLast(l, 8)
	k, _ := slowLast(l, 2)
	data, there := slowLast(l, 9)
	numbers := len(rows[5]) + len(rows[7])
	switch where.N {
	case 0, 1:
	default:
		return none, api.ErrForm
	}
	if !tensor.Name(name.Data) {
		return none, api.ErrName
	}
	wide, ok := map[uint64]int{1: 4, 2: 1, 7: 8, 9: 1, 14: 8}[k.N]
	if !ok {
		return none, api.ErrKind
	}
	count, e := shape.Size(rows[1])
	if e != api.OK {
		return none, e
	}
	u := tensor.Tensor{Name: name.Data, Kind: kind.Kind(k.N), Dims: rows[1], Data: data.Data}
	switch {
	case there > 0 && (numbers > 0 || where.N == 1), where.N == 1 && numbers > 0:
		return none, api.ErrForm
	case where.N == 1:
		u.Data, e = slowFile(texts, s, int64(count*wide))
	case there == 0:
		u.Data, e = slowRows(int(k.N), rows)
	}
	if e == api.OK {
		e = u.Check()
	}
	if e != api.OK {
		return none, e
	}
	return u, e
}

// slowRows are the bytes of elements in rows.
func slowRows(k int, rows map[int][]int64) (string, api.Errno) {
	if len(rows[5]) > 0 && k != 2 && k != 9 || len(rows[7]) > 0 && k != 7 {
		return "", api.ErrKind
	}
	data := int64s(rows[7]...)
	for _, n := range rows[5] {
		if n < 0 || n > 255 || k == 9 && n > 1 {
			return "", api.ErrValue
		}
		data += string([]byte{byte(n)})
	}
	return data, api.OK
}

// slowFile are the bytes of elements in a file.
func slowFile(texts []string, s store.Store, size int64) (string, api.Errno) {
	var key, from, long *string
	for _, b := range texts {
		l, e := wire.Fields(b)
		if e != api.OK {
			return "", e
		}
		k, n := slowLast(l, 1)
		v, m := slowLast(l, 2)
		if n > 0 && k.Type != 2 || m > 0 && v.Type != 2 {
			return "", api.ErrWire
		}
		switch k.Data {
		case "location":
			key = &v.Data
		case "offset":
			from = &v.Data
		case "length":
			long = &v.Data
		}
	}
	if key == nil {
		return "", api.ErrMissing
	}
	zero := "0"
	if from == nil {
		from = &zero
	}
	if !slowDigits.MatchString(*from) || long != nil && !slowDigits.MatchString(*long) {
		return "", api.ErrValue
	}
	if long != nil && *long != strconv.FormatInt(size, 10) {
		return "", api.ErrSize
	}
	n, _ := strconv.ParseInt(*from, 10, 64)
	return s.Read(*key, n, size)
}

func wantAsSlow(t *testing.T, b string, s store.Store) api.Errno {
	t.Helper()
	got, e := Read(b, s)
	want, wantE := slowRead(b, s)
	if e != wantE || !alike(got, want) {
		t.Fatalf("Read(%q) is %s, %v; want %s, %v", b, short(got), e, short(want), wantE)
	}
	if e != api.OK {
		return e
	}
	again, e := Put(got)
	if e != api.OK {
		t.Fatalf("Put(%s) is %v", short(got), e)
	}
	if back, e := Read(again, store.Store{}); e != api.OK || !alike(back, got) {
		t.Fatalf("what is put of %s is read as %s, %v", short(got), short(back), e)
	}
	return api.OK
}

// some are parts of messages, right ones and wrong ones, of which many fit together.
func some() [][]string {
	return [][]string{
		{"", "", row(1, 1), row(1, 2), row(1, 2), row(1, 0), row(1, 4), wire.Number(1, 2), row(1, 1, 2), row(1, 65537), row(1, -1), wire.Text(1, "\x80")},
		{wire.Number(2, 1), wire.Number(2, 2), wire.Number(2, 7), wire.Number(2, 7), wire.Number(2, 9), wire.Number(2, 14), wire.Number(2, 3), wire.Text(2, "x"), ""},
		{wire.Text(8, "a"), wire.Text(8, "bc"), wire.Text(8, "a"), wire.Text(8, "a"), wire.Text(8, "a"), wire.Text(8, "a"), wire.Text(8, ""), wire.Number(8, 1), ""},
		{"", "", "", "", row(5, 0), row(5, 1, 0), row(5, 1, 1, 0, 1), row(5, 255, 0), row(5, 256), row(5, -1), wire.Text(5, ""), wire.Number(5, 1)},
		{"", "", "", "", row(7, 0), row(7, 1, -1), row(7, 1, 2, 3, 4), wire.Text(7, ""), wire.Number(7, 1), wire.Text(7, "\x80")},
		{"", "", "", "", wire.Text(9, ""), wire.Text(9, "\x01\x00"), wire.Text(9, "\x02"), wire.Text(9, int64s(1)), wire.Text(9, int64s(1, 2)), wire.Text(9, float32s(1, 2, 0, 4)), wire.Number(9, 1)},
		{"", "", "", wire.Number(14, 0), wire.Number(14, 1), wire.Number(14, 1), wire.Number(14, 1), wire.Number(14, 1), wire.Number(14, 2), wire.Text(14, "")},
		{"", pair("location", "w/a.bin"), pair("location", "b"), pair("location", "nums"), pair("location", "flags"), pair("location", "none"), pair("location", ".."), wire.Text(13, "\x80")},
		{"", "", "", pair("offset", "0"), pair("offset", "8"), pair("offset", "1"), pair("offset", "01"), pair("offset", "999999999999999999"), wire.Text(13, wire.Number(1, 1))},
		{"", "", "", pair("length", "8"), pair("length", "16"), pair("length", "2"), pair("length", "x"), pair("other", "x"), wire.Number(13, 1)},
	}
}

// P9.1: messages of all parts, in all orders, are read as the slower reading says.
func TestReadOfManyMessages(t *testing.T) {
	s, next, parts := files(t), rule(), some()
	met := map[api.Errno]int{}
	for range 300000 {
		var l []string
		for _, of := range parts {
			part := of[next(uint64(len(of)))]
			at := int(next(uint64(len(l) + 1)))
			l = slices.Insert(l, at, part)
		}
		if next(8) == 0 {
			of := parts[next(uint64(len(parts)))]
			l = append(l, of[next(uint64(len(of)))])
		}
		b := strings.Join(l, "")
		if next(50) == 0 {
			b = b[:next(uint64(len(b)+1))]
		}
		met[wantAsSlow(t, b, s)]++
	}
	for _, e := range []api.Errno{api.OK, api.ErrShort, api.ErrWire, api.ErrKind, api.ErrShape, api.ErrSize, api.ErrName, api.ErrPath, api.ErrValue, api.ErrMissing, api.ErrForm} {
		if met[e] < 20 {
			t.Errorf("%v is met %d times", e, met[e])
		}
	}
}

// FuzzRead: any bytes are read as the slower reading says, and what is read is put and read again.
func FuzzRead(f *testing.F) {
	for _, of := range some() {
		for _, part := range of {
			f.Add([]byte(right + part))
			f.Add([]byte(filed(2) + part))
		}
	}
	f.Fuzz(func(t *testing.T, b []byte) {
		wantAsSlow(t, string(b), files(t))
		wantAsSlow(t, string(b), store.Store{})
	})
}
