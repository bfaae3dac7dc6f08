package pack

import (
	"math"
	"slices"
	"strings"
	"testing"

	"agate/api"
	"agate/varint"
	"agate/wire"
)

const topNum = 1<<29 - 1

// badTypes are Types of fields of which no row is made; 1 and 5 are such as messages have.
var badTypes = []int{1, 5, 3, 4, 6, 7, 8, 10, -1, -2, 256, 258, 1 << 32, 1<<32 + 2, math.MaxInt, math.MinInt, math.MinInt + 2}

// one is a field of one number.
func one(num int, n int64) wire.Field { return wire.Field{Num: num, Type: 0, N: uint64(n)} }

// packed is a field of a text.
func packed(num int, s string) wire.Field { return wire.Field{Num: num, Type: 2, Data: s} }

// varints is numbers written one behind the other.
func varints(l ...int64) string {
	var b strings.Builder
	for _, n := range l {
		b.WriteString(varint.Put(uint64(n)))
	}
	return b.String()
}

// rule answers numbers below n, the same each time.
func rule() func(n uint64) uint64 {
	x := uint64(1)
	return func(n uint64) uint64 {
		x = x*6364136223846793005 + 1442695040888963407
		return x >> 33 % n
	}
}

// ends are the numbers at which writings grow, and the ends of the type.
func ends() []int64 {
	l := []int64{0, 1, -1, math.MaxInt32, math.MinInt32, math.MaxInt64, math.MinInt64, math.MaxInt64 - 1, math.MinInt64 + 1}
	for k := 1; k < 63; k++ {
		l = append(l, 1<<k-1, 1<<k, -1<<k, -1<<k-1)
	}
	return l
}

// zeros is a packed field of so many numbers.
func zeros(num, n int) wire.Field { return packed(num, strings.Repeat("\x00", n)) }

// ones is so many fields of one number each.
func ones(num, n int) []wire.Field { return slices.Repeat([]wire.Field{one(num, 0)}, n) }

func wantInts(t *testing.T, l []wire.Field, num int, want ...int64) {
	t.Helper()
	if got, e := Ints(l, num); e != api.OK || !slices.Equal(got, want) {
		t.Errorf("Ints(%#v, %d) is %v, %v; want %v, ok", l, num, got, e, want)
	}
}

func wantIntsError(t *testing.T, l []wire.Field, num int, want api.Errno) {
	t.Helper()
	if got, e := Ints(l, num); e != want || len(got) != 0 {
		t.Errorf("Ints of %d fields, %d, is %d numbers, %v; want none, %v", len(l), num, len(got), e, want)
	}
}

func wantPut(t *testing.T, num int, l []int64, want string) {
	t.Helper()
	if got := Put(num, l); got != want {
		t.Errorf("Put(%d, %v) is % x; want % x", num, l, got, want)
	}
}

func wantTexts(t *testing.T, l []wire.Field, num int, want ...string) {
	t.Helper()
	if got, e := Texts(l, num); e != api.OK || !slices.Equal(got, want) {
		t.Errorf("Texts(%#v, %d) is %q, %v; want %q, ok", l, num, got, e, want)
	}
}

func wantTextsError(t *testing.T, l []wire.Field, num int) {
	t.Helper()
	if got, e := Texts(l, num); e != api.ErrWire || len(got) != 0 {
		t.Errorf("Texts(%#v, %d) is %q, %v; want none, wire", l, num, got, e)
	}
}

// P3.1: the chapter's example.
func TestExample(t *testing.T) {
	wantInts(t, []wire.Field{packed(1, varints(1, -1)), one(1, 5)}, 1, 1, -1, 5)
	l, e := wire.Fields("\x0a\x0b\x01\xff\xff\xff\xff\xff\xff\xff\xff\xff\x01\x08\x05")
	if e != api.OK {
		t.Fatal(e)
	}
	wantInts(t, l, 1, 1, -1, 5)
}

// P3.1: fields of all kinds that a row may have, one behind the other, with other Nums between.
func TestIntsInOrder(t *testing.T) {
	l := []wire.Field{
		one(7, 3),
		packed(8, varints(100)),
		packed(7, varints(-4, 300, 0)),
		packed(7, ""),
		one(8, 200),
		one(7, math.MinInt64),
		packed(7, varints(math.MaxInt64)),
	}
	wantInts(t, l, 7, 3, -4, 300, 0, math.MinInt64, math.MaxInt64)
	wantInts(t, l, 8, 100, 200)
	wantInts(t, l, 9)
	wantInts(t, l, 0)
	wantInts(t, l, -7)
}

// P3.1: of no fields, or of such as have no number, the row is empty.
func TestIntsOfNone(t *testing.T) {
	wantInts(t, nil, 1)
	wantInts(t, []wire.Field{}, 1)
	wantInts(t, []wire.Field{packed(1, "")}, 1)
	wantInts(t, []wire.Field{packed(1, ""), packed(1, ""), one(2, 1)}, 1)
}

// P3.1: 64 bits are two's complement, alike in both kinds of fields.
func TestIntsAreTwosComplement(t *testing.T) {
	for v, want := range map[uint64]int64{
		0:                  0,
		1:                  1,
		math.MaxUint32:     math.MaxUint32,
		1<<63 - 1:          math.MaxInt64,
		1 << 63:            math.MinInt64,
		1<<63 + 1:          math.MinInt64 + 1,
		math.MaxUint64 - 1: -2,
		math.MaxUint64:     -1,
	} {
		wantInts(t, []wire.Field{{Num: 1, Type: 0, N: v}}, 1, want)
		wantInts(t, []wire.Field{packed(1, varint.Put(v))}, 1, want)
	}
}

// P3.1: a varint may be read that isn't the least.
func TestIntsOfLongerVarints(t *testing.T) {
	long := strings.Repeat("\x80", 9)
	b := "\x80\x00" + "\x81\x80\x00" + long + "\x00" + long + "\x01" + "\xac\x82\x80\x00" + "\x05"
	wantInts(t, []wire.Field{packed(1, b)}, 1, 0, 1, 0, math.MinInt64, 300, 5)
}

// P3.1: what plays no part in a Type isn't looked at, nor whether a message may have the Num.
func TestIntsOfFieldsThatNoMessageHas(t *testing.T) {
	wantInts(t, []wire.Field{{Num: 1, Type: 0, N: 5, Data: "\x80"}, {Num: 1, Type: 2, N: 9, Data: "\x06"}}, 1, 5, 6)
	for _, num := range []int{0, -1, topNum, topNum + 1, math.MaxInt, math.MinInt} {
		wantInts(t, []wire.Field{one(num, 5), packed(num, "\x06"), one(1, 7)}, num, 5, 6)
	}
}

// P3.1: a Type of which no row is made; no number is told beside it.
func TestIntsErrorsOfTypes(t *testing.T) {
	for _, typ := range badTypes {
		bad := wire.Field{Num: 1, Type: typ, N: 5, Data: "\x05"}
		wantIntsError(t, []wire.Field{bad}, 1, api.ErrWire)
		wantIntsError(t, []wire.Field{one(1, 1), packed(1, "\x02"), bad, one(1, 3)}, 1, api.ErrWire)
		wantInts(t, []wire.Field{one(2, 1), bad, packed(2, "\x02")}, 2, 1, 2)
	}
}

// P3.1: a packed field in which a number is no varint.
func TestIntsErrorsOfVarints(t *testing.T) {
	for _, ahead := range []string{"", "\x01", varints(300, -1)} {
		for n := 1; n <= 9; n++ {
			wantIntsError(t, []wire.Field{packed(1, ahead+strings.Repeat("\x80", n))}, 1, api.ErrShort)
		}
		wantIntsError(t, []wire.Field{packed(1, ahead+strings.Repeat("\x80", 10))}, 1, api.ErrLong)
		wantIntsError(t, []wire.Field{packed(1, ahead+strings.Repeat("\xff", 9)+"\x02")}, 1, api.ErrLong)
		wantIntsError(t, []wire.Field{packed(1, ahead+strings.Repeat("\xff", 9)+"\x7f\x01\x01")}, 1, api.ErrLong)
	}
	wantInts(t, []wire.Field{packed(1, "\x80"), packed(2, "\x01")}, 2, 1)
}

// P3.1: a number ends in the field in which it begins.
func TestIntsErrorsOfNumbersCutInTwo(t *testing.T) {
	b := varint.Put(math.MaxUint64)
	for n := 1; n < len(b); n++ {
		wantIntsError(t, []wire.Field{packed(1, b[:n]), packed(1, b[n:])}, 1, api.ErrShort)
	}
}

// P3.1: of several faults the first one is told, field by field.
func TestIntsErrorsFieldByField(t *testing.T) {
	short, long := packed(1, "\x01\x80"), packed(1, "\x01"+strings.Repeat("\x80", 10))
	typ := wire.Field{Num: 1, Type: 5, N: 1, Data: "\x80"}
	wantIntsError(t, []wire.Field{short, long, typ}, 1, api.ErrShort)
	wantIntsError(t, []wire.Field{long, short, typ}, 1, api.ErrLong)
	wantIntsError(t, []wire.Field{long, typ, short}, 1, api.ErrLong)
	wantIntsError(t, []wire.Field{typ, short, long}, 1, api.ErrWire)
	wantIntsError(t, []wire.Field{packed(1, strings.Repeat("\x80", 10)+"\x80")}, 1, api.ErrLong)
}

// P3.1: as many numbers as are allowed, however they lie.
func TestMostInts(t *testing.T) {
	half := api.MaxElems / 2
	want := make([]int64, api.MaxElems)
	empty := packed(1, "")
	for _, l := range [][]wire.Field{
		{zeros(1, api.MaxElems)},
		{zeros(1, api.MaxElems), empty},
		{zeros(1, half), one(2, 1), zeros(1, half)},
		{zeros(1, api.MaxElems-1), one(1, 0)},
		{one(1, 0), zeros(1, api.MaxElems-1), empty, empty},
		{zeros(1, api.MaxElems), zeros(2, api.MaxElems+1)},
		ones(1, api.MaxElems),
		append(ones(1, half), zeros(1, half)),
	} {
		if got, e := Ints(l, 1); e != api.OK || !slices.Equal(got, want) {
			t.Errorf("of the longest row in %d fields there are %d numbers, %v", len(l), len(got), e)
		}
	}
}

// P3.1: one number too much, however they lie.
func TestTooManyInts(t *testing.T) {
	half := api.MaxElems / 2
	for _, l := range [][]wire.Field{
		{zeros(1, api.MaxElems+1)},
		{zeros(1, 3*api.MaxElems)},
		{zeros(1, half), zeros(1, half+1)},
		{zeros(1, api.MaxElems), one(1, 0)},
		{zeros(1, api.MaxElems), zeros(1, 1)},
		{one(1, 0), zeros(1, api.MaxElems)},
		ones(1, api.MaxElems+1),
		append(ones(1, half+1), zeros(1, half)),
		{packed(1, strings.Repeat("\x80\x00", api.MaxElems+1))},
	} {
		wantIntsError(t, l, 1, api.ErrSize)
	}
}

// P3.1: that there are too many is told at the number that is too much: ahead of what follows it, behind what is wrong with it or ahead of it.
func TestTooManyIntsAreToldInTheirPlace(t *testing.T) {
	full := strings.Repeat("\x00", api.MaxElems)
	long := strings.Repeat("\x80", 10)
	typ := wire.Field{Num: 1, Type: 1}
	wantIntsError(t, []wire.Field{packed(1, full+"\x00\x80")}, 1, api.ErrSize)
	wantIntsError(t, []wire.Field{packed(1, full+"\x00"+long)}, 1, api.ErrSize)
	wantIntsError(t, []wire.Field{packed(1, full), one(1, 0), packed(1, "\x80")}, 1, api.ErrSize)
	wantIntsError(t, []wire.Field{packed(1, full+"\x00"), typ}, 1, api.ErrSize)
	wantIntsError(t, append(ones(1, api.MaxElems+1), typ), 1, api.ErrSize)

	wantIntsError(t, []wire.Field{packed(1, full+"\x80")}, 1, api.ErrShort)
	wantIntsError(t, []wire.Field{packed(1, full+long)}, 1, api.ErrLong)
	wantIntsError(t, []wire.Field{packed(1, full), packed(1, "\x80")}, 1, api.ErrShort)
	wantIntsError(t, []wire.Field{packed(1, full), typ, one(1, 0)}, 1, api.ErrWire)
	wantIntsError(t, []wire.Field{typ, packed(1, full+"\x00")}, 1, api.ErrWire)
	wantIntsError(t, []wire.Field{packed(1, "\x80"), packed(1, full+"\x00")}, 1, api.ErrShort)
	wantIntsError(t, append(ones(1, api.MaxElems), typ), 1, api.ErrWire)
}

// P3.1
func TestWritings(t *testing.T) {
	wantPut(t, 1, []int64{5}, "\x0a\x01\x05")
	wantPut(t, 1, []int64{0}, "\x0a\x01\x00")
	wantPut(t, 7, []int64{3, 270, 86942}, "\x3a\x06\x03\x8e\x02\x9e\xa7\x05")
	wantPut(t, 1, []int64{1, -1}, "\x0a\x0b\x01\xff\xff\xff\xff\xff\xff\xff\xff\xff\x01")
	wantPut(t, 15, []int64{127, 128}, "\x7a\x03\x7f\x80\x01")
	wantPut(t, 16, []int64{0, 0}, "\x82\x01\x02\x00\x00")
	wantPut(t, topNum, []int64{math.MinInt64}, "\xfa\xff\xff\xff\x0f\x0a\x80\x80\x80\x80\x80\x80\x80\x80\x80\x01")
	wantPut(t, 1, make([]int64, 128), "\x0a\x80\x01"+strings.Repeat("\x00", 128))
}

// P3.1: nothing is written of no numbers, whatever the Num is.
func TestWritingOfNone(t *testing.T) {
	for _, num := range []int{0, -1, 1, 16, topNum, topNum + 1} {
		wantPut(t, num, nil, "")
		wantPut(t, num, []int64{}, "")
	}
}

// P3.1
func TestNumsThatMayNotBeHaveNoWriting(t *testing.T) {
	for _, num := range []int{0, -1, topNum + 1, 1 << 32, 1<<32 + 1, 1<<61 + 1, math.MaxInt, math.MinInt, math.MinInt + 1} {
		wantPut(t, num, []int64{1}, "")
		wantPut(t, num, ends(), "")
	}
}

// P3.1: a writing is one field, a text of varints that are the least ones, whatever the numbers are.
func TestWritingsAreOneFieldOfLeastVarints(t *testing.T) {
	l := ends()
	for _, num := range []int{1, 15, 16, topNum} {
		for i, n := range l {
			wantPut(t, num, []int64{n}, packed(num, varint.Put(uint64(n))).Bytes())
			wantPut(t, num, l[:i+1], packed(num, varints(l[:i+1]...)).Bytes())
		}
	}
}

// P3.1: a row has a writing that no reading allows.
func TestWritingOfALongRow(t *testing.T) {
	b := Put(1, make([]int64, api.MaxElems+1))
	if want := zeros(1, api.MaxElems+1).Bytes(); b != want {
		t.Errorf("of a long row there are %d bytes; want %d", len(b), len(want))
	}
	l, e := wire.Fields(b)
	if e != api.OK {
		t.Fatal(e)
	}
	wantIntsError(t, l, 1, api.ErrSize)
}

// P3.1
func TestTextsInOrder(t *testing.T) {
	l := []wire.Field{
		packed(3, "b"),
		one(1, 5),
		packed(2, "\x00\xff"),
		packed(3, ""),
		packed(3, "a"),
		packed(3, "b"),
		{Num: 4, Type: 1, N: 6},
		{Num: 3, Type: 2, N: 9, Data: "\x80"},
	}
	wantTexts(t, l, 3, "b", "", "a", "b", "\x80")
	wantTexts(t, l, 2, "\x00\xff")
	wantTexts(t, l, 5)
	wantTexts(t, l, 0)
	wantTexts(t, nil, 1)
	wantTexts(t, []wire.Field{}, 1)
	wantTexts(t, []wire.Field{packed(1, "")}, 1, "")
	wantTexts(t, []wire.Field{packed(0, "x"), packed(1, "y")}, 0, "x")
	wantTextsError(t, l, 1)
	wantTextsError(t, l, 4)
}

// P3.1: texts are not counted, nor is their length.
func TestManyTexts(t *testing.T) {
	l := slices.Repeat([]wire.Field{packed(1, "x")}, api.MaxElems+1)
	if got, e := Texts(l, 1); e != api.OK || len(got) != len(l) || slices.ContainsFunc(got, func(s string) bool { return s != "x" }) {
		t.Errorf("of %d texts there are %d, %v", len(l), len(got), e)
	}
	long := strings.Repeat("x", api.MaxBytes+1)
	if got, e := Texts([]wire.Field{packed(1, long)}, 1); e != api.OK || len(got) != 1 || got[0] != long {
		t.Errorf("of a long text there are %d, %v", len(got), e)
	}
}

// P3.1: a field that isn't a text, wherever it stands; no text is told beside it.
func TestTextsErrors(t *testing.T) {
	for _, typ := range append([]int{0}, badTypes...) {
		bad := wire.Field{Num: 1, Type: typ, N: 5, Data: "x"}
		wantTextsError(t, []wire.Field{bad}, 1)
		wantTextsError(t, []wire.Field{bad, packed(1, "a")}, 1)
		wantTextsError(t, []wire.Field{packed(1, "a"), bad, packed(1, "b")}, 1)
		wantTextsError(t, []wire.Field{packed(1, "a"), packed(1, "b"), bad}, 1)
		wantTexts(t, []wire.Field{packed(2, "a"), bad, packed(2, "b")}, 2, "a", "b")
	}
}

// P3.2
func TestWhatIsWrittenIsRead(t *testing.T) {
	try := func(num int, row []int64) {
		l, e := wire.Fields(Put(num, row))
		if e != api.OK {
			t.Fatalf("the writing of %v is no message: %v", row, e)
		}
		wantInts(t, l, num, row...)
	}
	l := ends()
	for _, num := range []int{1, 7, 16, topNum} {
		try(num, nil)
		for i, n := range l {
			try(num, []int64{n})
			try(num, l[:i])
		}
	}
}

// P3.2: the longest rows, of the shortest numbers and of the longest ones that a message has room for.
func TestLongestRowsAreRead(t *testing.T) {
	for _, n := range []int64{0, 127, 1<<14 - 1, math.MaxInt64, -1} {
		row := slices.Repeat([]int64{n}, api.MaxElems)
		row[0], row[len(row)-1] = 1, 2
		l, e := wire.Fields(Put(1, row))
		if e != api.OK {
			t.Fatalf("the writing of the longest row of %d is no message: %v", n, e)
		}
		if got, e := Ints(l, 1); e != api.OK || !slices.Equal(got, row) {
			t.Errorf("of the longest row of %d there are %d numbers, %v", n, len(got), e)
		}
	}
}

// cut is a row, cut into fields of both kinds by a rule, with empty ones and those of another Num between.
func cut(row []int64, num int, next func(uint64) uint64) []wire.Field {
	var l []wire.Field
	for len(row) > 0 || next(3) == 0 {
		switch next(4) {
		case 0:
			l = append(l, packed(num, ""))
		case 1:
			l = append(l, wire.Field{Num: num + 1, Type: int(next(6)), N: 1, Data: "\x80"})
		case 2:
			if len(row) > 0 {
				l = append(l, one(num, row[0]))
				row = row[1:]
			}
		case 3:
			n := int(next(uint64(len(row) + 1)))
			l = append(l, packed(num, varints(row[:n]...)))
			row = row[n:]
		}
	}
	return l
}

// P3.2: cut into any fields, a row is the same.
func TestRowsCutIntoAnyFields(t *testing.T) {
	next := rule()
	all := ends()
	for range 20000 {
		row := make([]int64, next(20)>>next(5))
		for i := range row {
			row[i] = all[next(uint64(len(all)))]
		}
		wantInts(t, cut(row, 1, next), 1, row...)
	}
}

// P3.2: a row of four is cut in all ways.
func TestRowsCutInAllWays(t *testing.T) {
	row := []int64{-1, 0, 300, math.MinInt64}
	for ways := range 1 << 7 {
		var l []wire.Field
		begin := 0
		for i := range row {
			if i < len(row)-1 && ways>>i&1 == 0 {
				continue
			}
			if part := row[begin : i+1]; len(part) == 1 && ways>>(3+i)&1 == 1 {
				l = append(l, one(9, part[0]))
			} else {
				l = append(l, packed(9, varints(part...)))
			}
			begin = i + 1
		}
		wantInts(t, l, 9, row...)
	}
}

// slowInts reads a row by the chapter's words, byte by byte, with nothing of the package nor of those below but Field.
func slowInts(l []wire.Field, num int) ([]int64, api.Errno) {
	var row []int64
	for _, f := range l {
		if f.Num != num {
			continue
		}
		if f.Type == 0 {
			row = append(row, int64(f.N))
		} else if f.Type != 2 {
			return nil, api.ErrWire
		}
		for at := 0; f.Type == 2 && at < len(f.Data); {
			var v uint64
			for i := 0; ; i++ {
				if at == len(f.Data) {
					return nil, api.ErrShort
				}
				c := uint64(f.Data[at])
				at++
				if i == 9 && c > 1 {
					return nil, api.ErrLong
				}
				v += c % 128 << (7 * i)
				if c < 128 {
					break
				}
			}
			row = append(row, int64(v))
			if len(row) > api.MaxElems {
				return nil, api.ErrSize
			}
		}
		if len(row) > api.MaxElems {
			return nil, api.ErrSize
		}
	}
	return row, api.OK
}

func wantAsSlow(t *testing.T, l []wire.Field, num int) {
	t.Helper()
	got, e := Ints(l, num)
	want, wantE := slowInts(l, num)
	if e != wantE || !slices.Equal(got, want) {
		t.Fatalf("Ints(%#v, %d) is %v, %v; want %v, %v", l, num, got, e, want, wantE)
	}
}

// P3.1: fields of any bytes, most of them faulty, are read as a slower reading says.
func TestIntsOfManyFields(t *testing.T) {
	next := rule()
	some := "\x00\x01\x05\x7f\x80\x81\xff\xff"
	for range 200000 {
		var l []wire.Field
		for range next(5) {
			f := wire.Field{Num: 1 + int(next(2)), Type: []int{0, 0, 2, 2, 2, 2, 2, 1, 5}[next(9)], N: next(1<<31) << next(34)}
			data := make([]byte, next(24)>>next(4))
			for i := range data {
				data[i] = some[next(uint64(len(some)))]
			}
			f.Data = string(data)
			l = append(l, f)
		}
		wantAsSlow(t, l, 1)
	}
}

// P3.1: all packed fields of up to two bytes.
func TestIntsOfAllShortTexts(t *testing.T) {
	for i := range 1 << 8 {
		wantAsSlow(t, []wire.Field{packed(1, string([]byte{byte(i)}))}, 1)
	}
	for i := range 1 << 16 {
		wantAsSlow(t, []wire.Field{packed(1, string([]byte{byte(i), byte(i >> 8)}))}, 1)
	}
}

// R3: lists that are handed in stay as they are, with the room behind their ends, and share nothing with what is answered.
func TestListsAreNotChangedNorShared(t *testing.T) {
	fields := []wire.Field{one(1, 5), packed(1, varints(6, 7)), packed(2, "a"), packed(2, "b"), one(1, 8), packed(1, "\x80")}
	before := slices.Clone(fields)
	l := fields[:4]
	row, _ := Ints(l, 1)
	texts, _ := Texts(l, 2)
	clear(row)
	clear(texts)
	wantInts(t, l, 1, 5, 6, 7)
	wantTexts(t, l, 2, "a", "b")
	if !slices.Equal(fields, before) {
		t.Error("a list of fields that was handed in is changed")
	}
	numbers := []int64{1, -1, 300, 4, 5}
	Put(1, numbers[:3])
	if !slices.Equal(numbers, []int64{1, -1, 300, 4, 5}) {
		t.Error("a row that was handed in is changed")
	}
}

// FuzzInts: the fields of any message are read as the slower reading says, and what is read is written and read again.
func FuzzInts(f *testing.F) {
	f.Add([]byte(packed(1, varints(1, -1)).Bytes() + one(1, 5).Bytes()))
	f.Add([]byte(packed(2, "\x80").Bytes() + one(1, -5).Bytes()))
	f.Add([]byte(Put(1, ends())))
	f.Fuzz(func(t *testing.T, b []byte) {
		l, e := wire.Fields(string(b))
		if e != api.OK {
			return
		}
		for num := range 4 {
			wantAsSlow(t, l, num)
		}
		if row, e := Ints(l, 1); e == api.OK {
			again, e := wire.Fields(Put(1, row))
			if e != api.OK {
				t.Fatalf("the writing of %v is no message: %v", row, e)
			}
			wantInts(t, again, 1, row...)
		}
	})
}
