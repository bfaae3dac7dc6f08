package wire

import (
	"math"
	"slices"
	"strings"
	"testing"

	"agate/api"
	"agate/varint"
)

const topNum = 1<<29 - 1

// sample is a row of fields of all Types, with the ends of what each holds.
func sample() []Field {
	return []Field{
		{Num: 1, Type: 0, N: 0},
		{Num: 1, Type: 0, N: 127},
		{Num: 15, Type: 0, N: 128},
		{Num: 16, Type: 0, N: math.MaxUint64},
		{Num: topNum, Type: 0, N: 1 << 63},
		{Num: 1, Type: 1, N: 0},
		{Num: 2, Type: 1, N: 0x0807060504030201},
		{Num: topNum, Type: 1, N: math.MaxUint64},
		{Num: 1, Type: 2, Data: ""},
		{Num: 3, Type: 2, Data: "x"},
		{Num: 3, Type: 2, Data: "\x00\xff\x80"},
		{Num: 2047, Type: 2, Data: strings.Repeat("a", 127)},
		{Num: 2048, Type: 2, Data: strings.Repeat("b", 128)},
		{Num: topNum, Type: 2, Data: strings.Repeat("\xff", 16384)},
		{Num: 1, Type: 5, N: 0},
		{Num: 4, Type: 5, N: 0x04030201},
		{Num: topNum, Type: 5, N: math.MaxUint32},
	}
}

// joined is fields written one behind the other.
func joined(l []Field) string {
	var b strings.Builder
	for _, f := range l {
		b.WriteString(f.Bytes())
	}
	return b.String()
}

// stretched is a writing of v of n bytes more than the least one, of which the last one is 0.
func stretched(v uint64, n int) string {
	b := []byte(varint.Put(v))
	b[len(b)-1] |= 0x80
	for range n - 1 {
		b = append(b, 0x80)
	}
	return string(append(b, 0))
}

func wantFields(t *testing.T, b string, want []Field) {
	t.Helper()
	if got, e := Fields(b); e != api.OK || !slices.Equal(got, want) {
		t.Errorf("Fields(% x) is %v, %v; want %v, ok", b, got, e, want)
	}
}

func wantError(t *testing.T, b string, want api.Errno) {
	t.Helper()
	if got, e := Fields(b); e != want || len(got) != 0 {
		t.Errorf("Fields(% .40x) of %d bytes is %v, %v; want none, %v", b, len(b), got, e, want)
	}
}

// P2.1
func TestWritings(t *testing.T) {
	for _, c := range []struct {
		f Field
		b string
	}{
		{Field{Num: 1, Type: 0, N: 150}, "\x08\x96\x01"},
		{Field{Num: 1, Type: 0, N: 0}, "\x08\x00"},
		{Field{Num: 15, Type: 0, N: 127}, "\x78\x7f"},
		{Field{Num: 16, Type: 0, N: 128}, "\x80\x01\x80\x01"},
		{Field{Num: topNum, Type: 0, N: math.MaxUint64}, "\xf8\xff\xff\xff\x0f\xff\xff\xff\xff\xff\xff\xff\xff\xff\x01"},
		{Field{Num: 1, Type: 1, N: 0}, "\x09\x00\x00\x00\x00\x00\x00\x00\x00"},
		{Field{Num: 1, Type: 1, N: 0x0807060504030201}, "\x09\x01\x02\x03\x04\x05\x06\x07\x08"},
		{Field{Num: 1, Type: 1, N: 1 << 63}, "\x09\x00\x00\x00\x00\x00\x00\x00\x80"},
		{Field{Num: topNum, Type: 1, N: math.MaxUint64}, "\xf9\xff\xff\xff\x0f\xff\xff\xff\xff\xff\xff\xff\xff"},
		{Field{Num: 1, Type: 2, Data: ""}, "\x0a\x00"},
		{Field{Num: 2, Type: 2, Data: "testing"}, "\x12\x07testing"},
		{Field{Num: 2, Type: 2, Data: "\x00\xff"}, "\x12\x02\x00\xff"},
		{Field{Num: 1, Type: 2, Data: strings.Repeat("a", 300)}, "\x0a\xac\x02" + strings.Repeat("a", 300)},
		{Field{Num: topNum, Type: 2, Data: "z"}, "\xfa\xff\xff\xff\x0f\x01z"},
		{Field{Num: 1, Type: 5, N: 0}, "\x0d\x00\x00\x00\x00"},
		{Field{Num: 1, Type: 5, N: 0x04030201}, "\x0d\x01\x02\x03\x04"},
		{Field{Num: topNum, Type: 5, N: math.MaxUint32}, "\xfd\xff\xff\xff\x0f\xff\xff\xff\xff"},
	} {
		if got := c.f.Bytes(); got != c.b {
			t.Errorf("Bytes of %v is % x; want % x", c.f, got, c.b)
		}
		wantFields(t, c.b, []Field{c.f})
	}
}

// P2.1: what plays no part in a Type isn't written, and doesn't keep the rest from being written.
func TestWhatPlaysNoPartIsNotWritten(t *testing.T) {
	for _, c := range []struct {
		f Field
		b string
	}{
		{Field{Num: 1, Type: 0, N: 5, Data: "no"}, "\x08\x05"},
		{Field{Num: 1, Type: 1, N: 5, Data: "no"}, "\x09\x05\x00\x00\x00\x00\x00\x00\x00"},
		{Field{Num: 1, Type: 2, N: math.MaxUint64, Data: "yes"}, "\x0a\x03yes"},
		{Field{Num: 1, Type: 5, N: 5, Data: "no"}, "\x0d\x05\x00\x00\x00"},
	} {
		if got := c.f.Bytes(); got != c.b {
			t.Errorf("Bytes of %v is % x; want % x", c.f, got, c.b)
		}
	}
}

// P2.1
func TestFieldsThatMayNotBeHaveNoWriting(t *testing.T) {
	for _, num := range []int{0, -1, topNum + 1, 1 << 32, 1<<32 + 1, 1<<61 + 1, math.MaxInt, math.MinInt, math.MinInt + 1} {
		for _, typ := range []int{0, 1, 2, 5} {
			if got := (Field{Num: num, Type: typ, N: 1, Data: "x"}).Bytes(); got != "" {
				t.Errorf("Bytes of Num %d, Type %d is % x", num, typ, got)
			}
		}
	}
	for _, typ := range []int{-1, 3, 4, 6, 7, 8, 10, 13, 256, 1 << 32, math.MaxInt, math.MinInt} {
		for _, num := range []int{1, topNum} {
			if got := (Field{Num: num, Type: typ, N: 1, Data: "x"}).Bytes(); got != "" {
				t.Errorf("Bytes of Num %d, Type %d is % x", num, typ, got)
			}
		}
	}
	for _, n := range []uint64{1 << 32, 1<<32 + 1, 1 << 63, math.MaxUint64} {
		if got := (Field{Num: 1, Type: 5, N: n}).Bytes(); got != "" {
			t.Errorf("Bytes of Type 5 of %d is % x", n, got)
		}
	}
	if got := (Field{}).Bytes(); got != "" {
		t.Errorf("Bytes of the zero field is % x", got)
	}
}

// P2.1
func TestFieldsInOrder(t *testing.T) {
	wantFields(t, "", nil)
	wantFields(t, "\x10\x02\x0a\x01a\x10\x01\x0d\x01\x00\x00\x00\x0a\x00", []Field{
		{Num: 2, Type: 0, N: 2},
		{Num: 1, Type: 2, Data: "a"},
		{Num: 2, Type: 0, N: 1},
		{Num: 1, Type: 5, N: 1},
		{Num: 1, Type: 2},
	})
	// A text that looks like fields, or like none, stays a text.
	wantFields(t, "\x0a\x03\x08\x96\x01", []Field{{Num: 1, Type: 2, Data: "\x08\x96\x01"}})
	wantFields(t, "\x0a\x02\x80\x80", []Field{{Num: 1, Type: 2, Data: "\x80\x80"}})
}

// P2.1: tags, numbers and lengths need not be written in the least way.
func TestFieldsOfVarintsThatAreNotTheLeast(t *testing.T) {
	for n := 1; n <= 9; n++ {
		tag := stretched(8, n)
		wantFields(t, tag+"\x96\x01", []Field{{Num: 1, Type: 0, N: 150}})
		wantFields(t, "\x08"+stretched(1, n), []Field{{Num: 1, Type: 0, N: 1}})
		wantFields(t, "\x0a"+stretched(1, n)+"x", []Field{{Num: 1, Type: 2, Data: "x"}})
		wantFields(t, stretched(0x0d, n)+"\x01\x00\x00\x00", []Field{{Num: 1, Type: 5, N: 1}})
	}
}

// P2.1: a tag that is no varint.
func TestErrorsOfTags(t *testing.T) {
	for _, ahead := range []string{"", "\x08\x01", "\x0a\x01x"} {
		for n := 1; n <= 9; n++ {
			wantError(t, ahead+strings.Repeat("\x80", n), api.ErrShort)
		}
		wantError(t, ahead+strings.Repeat("\x80", 10), api.ErrLong)
		wantError(t, ahead+strings.Repeat("\x88", 9)+"\x02", api.ErrLong)
		wantError(t, ahead+strings.Repeat("\xff", 11), api.ErrLong)
	}
}

// P2.1: a Type or a Num that may not be; it is told whatever follows.
func TestErrorsOfTypesAndNums(t *testing.T) {
	rests := []string{"", "\x00", "\x80", "\x01\x01\x01\x01\x01\x01\x01\x01", strings.Repeat("\xff", 11)}
	for _, rest := range rests {
		for _, num := range []uint64{1, 2, 16, topNum} {
			for _, typ := range []uint64{3, 4, 6, 7} {
				wantError(t, varint.Put(8*num+typ)+rest, api.ErrWire)
			}
		}
		for _, num := range []uint64{0, topNum + 1, topNum + 2, 1 << 32, 1<<32 + 1, 1 << 60, 1<<61 - 1} {
			for typ := range uint64(8) {
				wantError(t, varint.Put(8*num+typ)+rest, api.ErrWire)
			}
		}
	}
	wantError(t, "\x08\x01\x00\x01", api.ErrWire)
	wantError(t, stretched(0, 3)+"\x01", api.ErrWire)
}

// P2.1: a number, or a text's length, that is no varint.
func TestErrorsOfNumbersAndLengths(t *testing.T) {
	for _, tag := range []string{"\x08", "\x0a", "\xf8\xff\xff\xff\x0f", "\xfa\xff\xff\xff\x0f"} {
		wantError(t, tag, api.ErrShort)
		for n := 1; n <= 9; n++ {
			wantError(t, tag+strings.Repeat("\x80", n), api.ErrShort)
		}
		wantError(t, tag+strings.Repeat("\x80", 10), api.ErrLong)
		wantError(t, tag+strings.Repeat("\xff", 9)+"\x02", api.ErrLong)
		wantError(t, tag+strings.Repeat("\xff", 9)+"\x7f"+strings.Repeat("x", 30), api.ErrLong)
	}
}

// P2.1: fewer bytes than a field needs.
func TestErrorsOfFieldsCutShort(t *testing.T) {
	for n := range 8 {
		wantError(t, "\x09"+strings.Repeat("\x01", n), api.ErrShort)
	}
	for n := range 4 {
		wantError(t, "\x0d"+strings.Repeat("\x01", n), api.ErrShort)
	}
	for _, size := range []uint64{4, 5, 128, api.MaxBytes, math.MaxInt32, 1 << 32, 1<<32 + 3, math.MaxInt64 - 1, math.MaxInt64, 1 << 63, 1<<63 + 3, math.MaxUint64 - 10, math.MaxUint64} {
		wantError(t, "\x0a"+varint.Put(size)+"abc", api.ErrShort)
		wantError(t, "\x08\x01\x0a"+varint.Put(size)+"abc", api.ErrShort)
	}
	for _, f := range sample() {
		b := f.Bytes()
		for n := 1; n < min(len(b), 40); n++ {
			wantError(t, b[:n], api.ErrShort)
			wantError(t, b[:len(b)-n], api.ErrShort)
		}
	}
}

// P2.1: of several faults the first one from the left is told.
func TestErrorsFromTheLeft(t *testing.T) {
	long := strings.Repeat("\x80", 10)
	wantError(t, "\x08\x01"+"\x0b"+long, api.ErrWire)
	wantError(t, "\x08"+long+"\x0b", api.ErrLong)
	wantError(t, "\x0a"+long+"\x0b", api.ErrLong)
	wantError(t, "\x0a\x05\x0b"+long[:3], api.ErrShort)
	wantError(t, "\x0d\x01\x01", api.ErrShort)
	wantError(t, "\x0a\x02\x0b\x0b"+"\x0b", api.ErrWire)
}

// P2.1: a message of as many bytes as are allowed, and of one more.
func TestLongMessages(t *testing.T) {
	most := strings.Repeat("\x08\x01", api.MaxBytes/2)
	l, e := Fields(most)
	if e != api.OK || len(l) != api.MaxBytes/2 || l[0] != l[len(l)-1] || l[0] != (Field{Num: 1, N: 1}) {
		t.Errorf("of the longest message there are %d fields, %v", len(l), e)
	}
	data := strings.Repeat("\x0b", api.MaxBytes-4)
	wantFields(t, "\x0a"+varint.Put(uint64(len(data)))+data, []Field{{Num: 1, Type: 2, Data: data}})
	wantError(t, most+"\x08", api.ErrLong)
	wantError(t, most+"\x08\x01", api.ErrLong)
	wantError(t, strings.Repeat("\x00", api.MaxBytes), api.ErrWire)
	wantError(t, strings.Repeat("\x00", api.MaxBytes+1), api.ErrLong)
	wantError(t, strings.Repeat("\x80", api.MaxBytes+1), api.ErrLong)
	wantError(t, "\x0a\x05"+strings.Repeat("\x0b", 3*api.MaxBytes), api.ErrLong)
}

// P2.1: a field may be written that no message has room for.
func TestWritingOfALongText(t *testing.T) {
	data := strings.Repeat("x", api.MaxBytes+1)
	b := Text(1, data)
	if want := "\x0a" + varint.Put(api.MaxBytes+1) + data; b != want {
		t.Errorf("of a long text there are %d bytes; want %d", len(b), len(want))
	}
	wantError(t, b, api.ErrLong)
}

// P2.2
func TestNumberAndText(t *testing.T) {
	for _, num := range []int{math.MinInt, -1, 0, 1, 2, 15, 16, 2047, 2048, topNum, topNum + 1, math.MaxInt} {
		for _, v := range []uint64{0, 1, 127, 128, 150, math.MaxUint32, 1 << 32, math.MaxUint64} {
			if got, want := Number(num, v), (Field{Num: num, Type: 0, N: v}).Bytes(); got != want {
				t.Errorf("Number(%d, %d) is % x; want % x", num, v, got, want)
			}
		}
		for _, s := range []string{"", "x", "\x00\xff", strings.Repeat("y", 128)} {
			if got, want := Text(num, s), (Field{Num: num, Type: 2, Data: s}).Bytes(); got != want {
				t.Errorf("Text(%d, %q) is % x; want % x", num, s, got, want)
			}
		}
	}
	if got := Number(1, 150); got != "\x08\x96\x01" {
		t.Errorf("Number(1, 150) is % x", got)
	}
	if got := Text(2, "testing"); got != "\x12\x07testing" {
		t.Errorf("Text(2, testing) is % x", got)
	}
	if Number(0, 1) != "" || Number(topNum+1, 1) != "" || Text(0, "x") != "" || Text(topNum+1, "x") != "" {
		t.Error("a field of a Num that may not be is written")
	}
}

// P2.2
func TestLastAndAll(t *testing.T) {
	l := []Field{
		{Num: 1, Type: 0, N: 1},
		{Num: 2, Type: 2, Data: "a"},
		{Num: 1, Type: 2, Data: "b"},
		{Num: 3, Type: 5, N: 7},
		{Num: 2, Type: 0, N: 2},
		{Num: 1, Type: 1, N: 3},
	}
	for num, want := range map[int][]Field{
		1:  {l[0], l[2], l[5]},
		2:  {l[1], l[4]},
		3:  {l[3]},
		0:  nil,
		4:  nil,
		-1: nil,
	} {
		if got := All(l, num); !slices.Equal(got, want) {
			t.Errorf("All of %d is %v; want %v", num, got, want)
		}
		f, ok := Last(l, num)
		if len(want) == 0 && (ok || f != Field{}) {
			t.Errorf("Last of %d is %v, %v; want none", num, f, ok)
		}
		if len(want) > 0 && (!ok || f != want[len(want)-1]) {
			t.Errorf("Last of %d is %v, %v; want %v", num, f, ok, want[len(want)-1])
		}
	}
}

// P2.2: lists without fields, and fields that no message has, are lists, too.
func TestLastAndAllOfOtherLists(t *testing.T) {
	for _, l := range [][]Field{nil, {}} {
		if f, ok := Last(l, 1); ok || f != (Field{}) {
			t.Errorf("Last of no fields is %v, %v", f, ok)
		}
		if got := All(l, 1); len(got) != 0 {
			t.Errorf("All of no fields is %v", got)
		}
	}
	l := []Field{{Num: 0, N: 1}, {Num: -5, Type: 9, N: 2, Data: "x"}, {Num: 0, N: 3}}
	if f, ok := Last(l, 0); !ok || f != l[2] {
		t.Errorf("Last of 0 is %v, %v", f, ok)
	}
	if got := All(l, -5); !slices.Equal(got, l[1:2]) {
		t.Errorf("All of -5 is %v", got)
	}
}

// R3: the list that is handed in stays as it is, with the room behind its end, and shares nothing with what is answered.
func TestListsAreNotChangedNorShared(t *testing.T) {
	room := append(sample(), sample()...)
	before := slices.Clone(room)
	l := room[:len(room)/2]
	for _, num := range []int{0, 1, 3, topNum} {
		all := All(l, num)
		_ = append(all, Field{Num: 99})
		for i := range all {
			all[i] = Field{}
		}
		Last(l, num)
	}
	if !slices.Equal(room, before) {
		t.Error("a list that was handed in is changed")
	}
	b := joined(l)
	first, _ := Fields(b)
	clear(first)
	wantFields(t, b, l)
}

// P2.3
func TestWhatIsWrittenIsRead(t *testing.T) {
	l := sample()
	wantFields(t, joined(l), l)
	for i, f := range l {
		wantFields(t, f.Bytes(), []Field{f})
		for _, g := range l {
			wantFields(t, joined([]Field{f, g}), []Field{f, g})
		}
		wantFields(t, joined(l[:i]), l[:i])
	}
}

// P2.3: rows of fields of all Types and lengths, made by a rule.
func TestRowsThatAreWrittenAreRead(t *testing.T) {
	x := uint64(1)
	next := func(n uint64) uint64 {
		x = x*6364136223846793005 + 1442695040888963407
		return x >> 33 % n
	}
	for range 3000 {
		var l []Field
		for range next(9) {
			f := Field{Num: 1 + int(next(topNum)>>next(29)), Type: []int{0, 1, 2, 5}[next(4)]}
			switch f.Type {
			case 0, 1:
				f.N = (next(1<<31)<<33 | next(1<<31)<<2 | next(4)) >> next(64)
			case 2:
				data := make([]byte, next(300)>>next(9))
				for i := range data {
					data[i] = byte(next(256))
				}
				f.Data = string(data)
			case 5:
				f.N = next(1<<31)<<1 | next(2)
			}
			l = append(l, f)
		}
		wantFields(t, joined(l), l)
	}
}

// slowFields reads a message by the chapter's words, byte by byte, with nothing of the package but Field.
func slowFields(b string) ([]Field, api.Errno) {
	var l []Field
	at := 0
	number := func() (uint64, api.Errno) {
		var v uint64
		for i := 0; ; i++ {
			if at == len(b) {
				return 0, api.ErrShort
			}
			c := uint64(b[at])
			at++
			if i == 9 && c > 1 {
				return 0, api.ErrLong
			}
			v += c % 128 << (7 * i)
			if c < 128 {
				return v, api.OK
			}
		}
	}
	low := func(n int) (uint64, api.Errno) {
		if at+n > len(b) {
			return 0, api.ErrShort
		}
		var v uint64
		for i := n - 1; i >= 0; i-- {
			v = v*256 + uint64(b[at+i])
		}
		at += n
		return v, api.OK
	}
	for at < len(b) {
		tag, e := number()
		if e != api.OK {
			return nil, e
		}
		if num := tag >> 3; num == 0 || num >= 1<<29 || !strings.Contains("0125", string(rune('0'+tag&7))) {
			return nil, api.ErrWire
		}
		f := Field{Num: int(tag >> 3), Type: int(tag & 7)}
		switch f.Type {
		case 0:
			f.N, e = number()
		case 1:
			f.N, e = low(8)
		case 5:
			f.N, e = low(4)
		case 2:
			var size uint64
			if size, e = number(); e == api.OK {
				if size > uint64(len(b)-at) {
					return nil, api.ErrShort
				}
				f.Data = b[at : at+int(size)]
				at += int(size)
			}
		}
		if e != api.OK {
			return nil, e
		}
		l = append(l, f)
	}
	return l, api.OK
}

// P2.1: all texts of up to two bytes, and longer ones of bytes that matter, are read as a slower reading says.
func TestFieldsOfManyTexts(t *testing.T) {
	try := func(b string) {
		got, e := Fields(b)
		want, wantE := slowFields(b)
		if e != wantE || !slices.Equal(got, want) {
			t.Fatalf("Fields(% x) is %v, %v; want %v, %v", b, got, e, want, wantE)
		}
	}
	for i := range 1 << 8 {
		try(string([]byte{byte(i)}))
	}
	for i := range 1 << 16 {
		try(string([]byte{byte(i), byte(i >> 8)}))
	}
	some := "\x00\x01\x02\x05\x08\x09\x0a\x0b\x0d\x0f\x7f\x80\x88\xf8\xff"
	for n := range len(some) * len(some) * len(some) * len(some) * len(some) {
		b := make([]byte, 5)
		for i := range b {
			b[i] = some[n%len(some)]
			n /= len(some)
		}
		try(string(b))
	}
	x := uint64(1)
	for range 200000 {
		var b []byte
		for range x >> 40 % 24 {
			x = x*6364136223846793005 + 1442695040888963407
			b = append(b, some[x>>33%uint64(len(some))])
		}
		x = x*6364136223846793005 + 1442695040888963407
		try(string(b))
	}
}

// P2.1: what is read, written in the least way, is no longer than it was, and is read alike.
func TestNoWritingIsLessThanBytes(t *testing.T) {
	for i := range 1 << 24 {
		b := string([]byte{byte(i), byte(i >> 8), byte(i >> 16)})
		l, e := Fields(b)
		if e != api.OK {
			continue
		}
		if least := joined(l); len(least) > len(b) || len(least) == len(b) && least != b {
			t.Fatalf("% x is read as %v, whose writing is % x", b, l, least)
		}
	}
}

// FuzzFields: any bytes are read as the slower reading says, and what is read is written and read again.
func FuzzFields(f *testing.F) {
	for _, x := range sample() {
		f.Add([]byte(x.Bytes()))
	}
	f.Fuzz(func(t *testing.T, b []byte) {
		if len(b) > api.MaxBytes {
			return
		}
		got, e := Fields(string(b))
		want, wantE := slowFields(string(b))
		if e != wantE || !slices.Equal(got, want) {
			t.Fatalf("Fields(% x) is %v, %v; want %v, %v", b, got, e, want, wantE)
		}
		wantFields(t, joined(got), got)
	})
}
