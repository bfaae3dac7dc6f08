package pbnode

import (
	"encoding/hex"
	"math"
	"slices"
	"strconv"
	"strings"
	"testing"

	"agate/api"
	"agate/kind"
	"agate/model"
	"agate/pack"
	"agate/wire"
)

// ints is a list of numbers, shorter to write.
func ints(l ...int64) []int64 { return l }

// names is a list of texts, shorter to write.
func names(l ...string) []string { return l }

// field is a field of a Num and a Type, with something in it.
func field(num, typ int) string {
	f := wire.Field{Num: num, Type: typ, N: 1}
	if typ == 2 {
		f = wire.Field{Num: num, Type: typ, Data: "\x80"}
	}
	return f.Bytes()
}

// one is an attribute's message, of one number.
func one(name string, n int64) string {
	return wire.Text(1, name) + wire.Number(3, uint64(n)) + wire.Number(20, 2)
}

// row is an attribute's message, of a row.
func row(name string, l ...int64) string {
	return wire.Text(1, name) + pack.Put(8, l) + wire.Number(20, 7)
}

// bare is a right message of a node without attributes.
const bare = "\x0a\x01x" + "\x12\x01y" + "\x22\x03Neg"

// with is a right message of a node with attributes of these messages.
func with(attrs ...string) string {
	b := bare
	for _, a := range attrs {
		b += wire.Text(5, a)
	}
	return b
}

// withAttrs is the node of such a message.
func withAttrs(l ...model.Attr) model.Node {
	return model.Node{Op: "Neg", In: names("x"), Out: "y", Attrs: l}
}

// dim is a dimension's message.
func dim(n int64) string { return wire.Number(1, uint64(n)) }

// dims is the message of dimensions, each of a message.
func dims(l ...string) string {
	b := ""
	for _, d := range l {
		b += wire.Text(1, d)
	}
	return b
}

// inInfo is an info's message with the name a, around a message of what the kind and the dimensions are in.
func inInfo(b string) string { return wire.Text(1, "a") + wire.Text(2, wire.Text(1, b)) }

// infoOf is an info's message, of the name a, with a message of dimensions.
func infoOf(b string) string { return inInfo(wire.Number(1, 7) + wire.Text(2, b)) }

// rule answers numbers below n, the same each time.
func rule() func(n int) int {
	x := uint64(1)
	return func(n int) int {
		x = x*6364136223846793005 + 1442695040888963407
		return int(x >> 33 % uint64(n))
	}
}

// brief is a text to tell of.
func brief(s string) string {
	return strconv.Quote(s[:min(len(s), 120)]) + " of " + strconv.Itoa(len(s))
}

// strict says whether two nodes are so in each field: what plays no part must be zero.
func strict(a, b model.Node) bool {
	return a.Op == b.Op && a.Out == b.Out && slices.Equal(a.In, b.In) && slices.EqualFunc(a.Attrs, b.Attrs, func(a, b model.Attr) bool {
		return a.Name == b.Name && a.One == b.One && a.Int == b.Int && slices.Equal(a.Ints, b.Ints)
	})
}

// alike says whether two infos are so in each field.
func alike(a, b model.Info) bool {
	return a.Name == b.Name && a.Kind == b.Kind && slices.Equal(a.Dims, b.Dims)
}

// few is a node to tell of, its rows cut short.
func few(n model.Node) model.Node {
	n.Attrs = slices.Clone(n.Attrs[:min(len(n.Attrs), 5)])
	for i := range n.Attrs {
		n.Attrs[i].Ints = n.Attrs[i].Ints[:min(len(n.Attrs[i].Ints), 10)]
	}
	return n
}

func wantNode(t *testing.T, b string, want model.Node) {
	t.Helper()
	if got, e := ReadNode(b); e != api.OK || !strict(got, want) {
		t.Errorf("ReadNode(%s) is %+v, %v; want %+v, ok", brief(b), few(got), e, few(want))
	}
}

func wantNodeError(t *testing.T, b string, want api.Errno) {
	t.Helper()
	if got, e := ReadNode(b); e != want || !strict(got, model.Node{}) {
		t.Errorf("ReadNode(%s) is %+v, %v; want the zero one, %v", brief(b), few(got), e, want)
	}
}

func wantInfo(t *testing.T, b string, want model.Info) {
	t.Helper()
	if got, e := ReadInfo(b); e != api.OK || !alike(got, want) {
		t.Errorf("ReadInfo(%s) is %.200v, %v; want %.200v, ok", brief(b), got, e, want)
	}
}

func wantInfoError(t *testing.T, b string, want api.Errno) {
	t.Helper()
	if got, e := ReadInfo(b); e != want || !alike(got, model.Info{}) {
		t.Errorf("ReadInfo(%s) is %.200v, %v; want the zero one, %v", brief(b), got, e, want)
	}
}

// wantBytes wants the bytes that are told in hexadecimal, with spaces between.
func wantBytes(t *testing.T, what, got, want string) {
	t.Helper()
	b, err := hex.DecodeString(strings.ReplaceAll(want, " ", ""))
	if err != nil {
		t.Fatal(err)
	}
	if got != string(b) {
		t.Errorf("%s is put as %x; want %x", what, got, b)
	}
}

// P11.1, P11.2: the chapter's example.
func TestExample(t *testing.T) {
	n := model.Node{Op: "Neg", In: names("x"), Out: "y"}
	const b = "\x0a\x01\x78\x12\x01\x79\x22\x03\x4e\x65\x67"
	if got := PutNode(n); got != b {
		t.Errorf("the example is put as %x", got)
	}
	wantNode(t, b, n)
}

// P11.2: the least writing of nodes, byte by byte.
func TestNodeWritings(t *testing.T) {
	wantBytes(t, "the zero node", PutNode(model.Node{}), "12 00 22 00")
	wantBytes(t, "a node of empty names", PutNode(model.Node{In: names("", ""), Out: ""}), "0a 00 0a 00 12 00 22 00")
	wantBytes(t, "Add", PutNode(model.Node{Op: "Add", In: names("ab", "c"), Out: "d"}), "0a 02 61 62 0a 01 63 12 01 64 22 03 41 64 64")
	for a, want := range map[*model.Attr]string{
		{}:                                     "2a 05 0a 00 a0 01 07",
		{Name: "k", One: true}:                 "2a 08 0a 01 6b 18 00 a0 01 02",
		{Name: "k", One: true, Int: 1}:         "2a 08 0a 01 6b 18 01 a0 01 02",
		{Name: "k", One: true, Int: 300}:       "2a 09 0a 01 6b 18 ac 02 a0 01 02",
		{Name: "k", One: true, Int: -1}:        "2a 11 0a 01 6b 18 ff ff ff ff ff ff ff ff ff 01 a0 01 02",
		{Name: "k"}:                            "2a 06 0a 01 6b a0 01 07",
		{Name: "k", Ints: ints(0)}:             "2a 09 0a 01 6b 42 01 00 a0 01 07",
		{Name: "k", Ints: ints(1, 300)}:        "2a 0b 0a 01 6b 42 03 01 ac 02 a0 01 07",
		{Name: "k", Ints: ints(math.MinInt64)}: "2a 12 0a 01 6b 42 0a 80 80 80 80 80 80 80 80 80 01 a0 01 07",
	} {
		wantBytes(t, "an attribute", PutNode(model.Node{Attrs: []model.Attr{*a}}), "12 00 22 00"+want)
	}
	n := model.Node{Op: "O", In: names("i"), Out: "o", Attrs: []model.Attr{model.Row("b", 5), model.Number("a", 6)}}
	wantBytes(t, "a node of two attributes", PutNode(n), "0a 01 69 12 01 6f 22 01 4f 2a 09 0a 01 62 42 01 05 a0 01 07 2a 08 0a 01 61 18 06 a0 01 02")
}

// P11.2: of an attribute what plays no part isn't written.
func TestNoPartIsNotWritten(t *testing.T) {
	for got, want := range map[*model.Attr]model.Attr{
		{Name: "k", One: true, Int: 5, Ints: ints(1, 2)}: model.Number("k", 5),
		{Name: "k", One: true, Ints: ints(1)}:            model.Number("k", 0),
		{Name: "k", Int: 5, Ints: ints(1, 2)}:            model.Row("k", 1, 2),
		{Name: "k", Int: 5}:                              model.Row("k"),
	} {
		b := PutNode(withAttrs(*got))
		if b != PutNode(withAttrs(want)) {
			t.Errorf("%+v is put as %x", *got, b)
		}
		wantNode(t, b, withAttrs(want))
	}
}

// P11.2: the least writing of infos, byte by byte.
func TestInfoWritings(t *testing.T) {
	wantBytes(t, "the zero info", PutInfo(model.Info{}), "0a 00 12 06 0a 04 08 00 12 00")
	wantBytes(t, "an info of no dimensions", PutInfo(model.Info{Name: "x", Kind: kind.Int}), "0a 01 78 12 06 0a 04 08 07 12 00")
	wantBytes(t, "an info", PutInfo(model.Info{Name: "x", Kind: kind.Gauss, Dims: ints(3)}), "0a 01 78 12 0a 0a 08 08 0e 12 04 0a 02 08 03")
	wantBytes(t, "an info of a 0", PutInfo(model.Info{Name: "x", Kind: kind.Float, Dims: ints(0, 300)}), "0a 01 78 12 0f 0a 0d 08 01 12 09 0a 02 08 00 0a 03 08 ac 02")
	wantBytes(t, "an info of -1", PutInfo(model.Info{Name: "xy", Kind: kind.Flag, Dims: ints(-1)}), "0a 02 78 79 12 13 0a 11 08 09 12 0d 0a 0b 08 ff ff ff ff ff ff ff ff ff 01")
	wantBytes(t, "an info of no kind", PutInfo(model.Info{Name: "x", Kind: -1}), "0a 01 78 12 0f 0a 0d 08 ff ff ff ff ff ff ff ff ff 01 12 00")
	long := PutInfo(model.Info{Name: strings.Repeat("n", 200), Kind: 300, Dims: make([]int64, 40)})
	wantBytes(t, "a long info", long, "0a c8 01"+strings.Repeat("6e", 200)+"12 a9 01 0a a6 01 08 ac 02 12 a0 01"+strings.Repeat("0a 02 08 00", 40))
}

// rightNodes are such as are read as they were, when they are put.
func rightNodes() []model.Node {
	all := make([]byte, 256)
	for i := range all {
		all[i] = byte(i)
	}
	most := make([]int64, api.MaxElems)
	for i := range most {
		most[i] = -int64(i)
	}
	name := strings.Repeat("~", 64)
	return []model.Node{
		{},
		{Op: "Neg", In: names("x"), Out: "y"},
		{Op: string(all), In: names(string(all), "", " "), Out: string(all)},
		{Op: "NoSuchOne", In: slices.Repeat(names("x"), 64), Out: "x"},
		{Op: "Concat", In: names("x", "", "x"), Out: "", Attrs: []model.Attr{model.Number("axis", -1)}},
		withAttrs(model.Number("a", math.MaxInt64), model.Number("b", math.MinInt64), model.Number("c", 0), model.Number("A", 1)),
		withAttrs(model.Row("b"), model.Row("a", math.MinInt64, 0, math.MaxInt64), model.Number("!", 5), model.Row(name, -1), model.Row(name[1:], 1)),
		withAttrs(model.Row("a", most...)),
		withAttrs(model.Row("a", make([]int64, api.MaxElems)...), model.Row("b", make([]int64, api.MaxElems)...)),
		{Op: strings.Repeat("o", 500000), In: names(strings.Repeat("i", 500000)), Out: "y"},
	}
}

// P11.2: what is put is read as it was.
func TestNodesThatArePutAreRead(t *testing.T) {
	for _, n := range rightNodes() {
		wantNode(t, PutNode(n), n)
	}
	var l []model.Attr
	for i := range 1000 {
		l = append(l, model.Number("k"+strconv.Itoa(i), int64(i)), model.Row("r"+strconv.Itoa(i), int64(i)))
	}
	wantNode(t, PutNode(withAttrs(l...)), withAttrs(l...))
}

// P11.2: infos, whose dimensions may be any.
func TestInfosThatArePutAreRead(t *testing.T) {
	for _, k := range kind.All() {
		for _, name := range []string{"x", "!", "~", strings.Repeat("n", 64)} {
			for _, d := range [][]int64{nil, {0}, {1, 2, 3}, {-1}, {math.MaxInt64, math.MinInt64, 0}, make([]int64, 9), make([]int64, 300)} {
				i := model.Info{Name: name, Kind: k, Dims: d}
				wantInfo(t, PutInfo(i), i)
			}
		}
	}
	long := model.Info{Name: "x", Kind: kind.Int, Dims: make([]int64, 200000)}
	wantInfo(t, PutInfo(long), long)
}

// P11.2: nodes and infos that aren't read as they were are written, too.
func TestWhatMayNotBeIsPut(t *testing.T) {
	wantNodeError(t, PutNode(model.Node{In: make([]string, 65)}), api.ErrArity)
	wantNodeError(t, PutNode(withAttrs(model.Number("", 1))), api.ErrName)
	wantNodeError(t, PutNode(withAttrs(model.Row("a b"))), api.ErrName)
	wantNodeError(t, PutNode(withAttrs(model.Row("a"), model.Number("a", 1))), api.ErrTwice)
	wantNodeError(t, PutNode(withAttrs(model.Row("a", make([]int64, api.MaxElems+1)...))), api.ErrSize)
	wantInfoError(t, PutInfo(model.Info{}), api.ErrName)
	wantInfoError(t, PutInfo(model.Info{Name: "x", Kind: 3}), api.ErrKind)
	wantInfoError(t, PutInfo(model.Info{Name: "x", Kind: math.MinInt}), api.ErrKind)
	wantInfoError(t, PutInfo(model.Info{Name: " ", Kind: kind.Int}), api.ErrName)
	// No message is longer than layer 2 allows.
	wantNodeError(t, PutNode(model.Node{Op: strings.Repeat("o", api.MaxBytes)}), api.ErrLong)
	wantInfoError(t, PutInfo(model.Info{Name: "x", Kind: kind.Int, Dims: make([]int64, 1<<18)}), api.ErrLong)
}

// P11.1: the fields of a node are found in any order; of lists it is theirs.
func TestNodeFieldsInAnyOrder(t *testing.T) {
	want := model.Node{Op: "Slice", In: names("x", "", "x"), Out: "y", Attrs: []model.Attr{model.Row("b", 1), model.Number("a", 2)}}
	in, attrs := names("\x0a\x01x", "\x0a\x00", "\x0a\x01x"), names(wire.Text(5, row("b", 1)), wire.Text(5, one("a", 2)))
	for _, l := range [][]string{
		{in[0], in[1], in[2], attrs[0], attrs[1], "\x12\x01y", "\x22\x05Slice", "\x3a\x00"},
		{"\x3a\x00", "\x22\x05Slice", attrs[0], in[0], "\x12\x01y", in[1], attrs[1], in[2]},
		{"\x12\x01y", attrs[0], in[0], attrs[1], in[1], "\x22\x05Slice", in[2]},
	} {
		wantNode(t, strings.Join(l, ""), want)
	}
}

// P11.1: of an Op, and of the text that must be empty, the last field counts, whatever those ahead are.
func TestLastFieldsOfNodesCount(t *testing.T) {
	want := model.Node{Op: "Neg", In: names("x"), Out: "y"}
	for _, num := range []int{4, 7} {
		for _, typ := range []int{0, 1, 2, 5} {
			wantNode(t, field(num, typ)+bare+wire.Text(7, ""), want)
			wantNode(t, field(num, typ)+field(num, typ)+bare+wire.Text(7, ""), want)
		}
	}
	wantNode(t, bare+wire.Text(4, "Add"), model.Node{Op: "Add", In: names("x"), Out: "y"})
	wantNode(t, bare+wire.Text(4, ""), model.Node{In: names("x"), Out: "y"})
	wantNode(t, "\x0a\x01x\x12\x01y", model.Node{In: names("x"), Out: "y"})
	wantNode(t, "\x12\x00", model.Node{})
	wantNodeError(t, bare+wire.Text(7, "")+wire.Text(7, "a"), api.ErrOp)
}

// P11.1: In and Out are any texts, the Op, too.
func TestAnyTexts(t *testing.T) {
	for _, s := range []string{"", " ", "\x00", "\xff\xfe", "ä", "a b", strings.Repeat("n", 65), strings.Repeat("n", 100000)} {
		wantNode(t, wire.Text(1, s)+wire.Text(1, s)+wire.Text(2, s)+wire.Text(4, s), model.Node{Op: s, In: names(s, s), Out: s})
	}
}

// P11.1: other fields count for nothing, whatever they are, in each message.
func TestOtherFieldsCountForNothing(t *testing.T) {
	a := row("k", 1, 2)
	node := withAttrs(model.Row("k", 1, 2))
	number := withAttrs(model.Number("k", 3))
	info := model.Info{Name: "a", Kind: kind.Int, Dims: ints(4)}
	in := dims(dim(4))
	t4 := wire.Number(1, 7) + wire.Text(2, in)
	for num := 1; num < 40; num++ {
		for _, typ := range []int{0, 1, 2, 5} {
			x := field(num, typ)
			if !slices.Contains([]int{1, 2, 4, 5, 7}, num) {
				wantNode(t, x+with(a)+x, node)
			}
			if !slices.Contains([]int{1, 3, 8, 20}, num) {
				wantNode(t, with(x+a+x), node)
				wantNode(t, with(x+one("k", 3)+x), number)
			}
			if num > 2 {
				wantInfo(t, x+infoOf(in)+x, info)
				wantInfo(t, inInfo(x+t4+x), info)
			}
			if num > 1 {
				wantInfo(t, wire.Text(1, "a")+wire.Text(2, x+wire.Text(1, t4)+x), info)
				wantInfo(t, infoOf(x+in+x), info)
				wantInfo(t, infoOf(dims(x+dim(4)+x)), info)
			}
		}
	}
	for _, num := range []int{128 + 1, 256 + 2, 1<<16 + 5, 1<<29 - 1} {
		wantNode(t, with(a)+field(num, 2)+field(num, 0), node)
	}
}

// P11.1: field 20 says of which form an attribute is; what the other form has counts for nothing, but for its errors.
func TestForms(t *testing.T) {
	name, n, l := wire.Text(1, "k"), wire.Number(3, 5), pack.Put(8, ints(6, 7))
	number, list := wire.Number(20, 2), wire.Number(20, 7)
	for _, b := range []string{name + n + number, number + n + name, name + n + l + number, l + number + n + name, name + list + n + number, number + list + number + n + name} {
		wantNode(t, with(b), withAttrs(model.Number("k", 5)))
	}
	for _, b := range []string{name + l + list, list + l + name, name + n + l + list, n + list + l + name, name + number + l + list} {
		wantNode(t, with(b), withAttrs(model.Row("k", 6, 7)))
	}
	wantNode(t, with(name+number), withAttrs(model.Number("k", 0)))
	wantNode(t, with(name+l+number), withAttrs(model.Number("k", 0)))
	wantNode(t, with(name+list), withAttrs(model.Row("k")))
	wantNode(t, with(name+n+list), withAttrs(model.Row("k")))
	wantNode(t, with(name+list+wire.Text(8, "")), withAttrs(model.Row("k")))
	for _, b := range []string{"", n, l, n + l} {
		wantNodeError(t, with(name+b), api.ErrAttr)
		for _, form := range []uint64{0, 1, 3, 4, 5, 6, 8, 9, 255, 256 + 2, 256 + 7, 1<<32 + 2, 1<<32 + 7, 1<<63 + 2, 1<<63 + 7, math.MaxUint64, math.MaxUint64 - 1} {
			wantNodeError(t, with(name+b+wire.Number(20, form)), api.ErrAttr)
			wantNodeError(t, with(name+number+b+list+wire.Number(20, form)), api.ErrAttr)
		}
	}
}

// P11.1: of an attribute's Name, its one number and its form the last field counts, whatever those ahead are.
func TestLastFieldsOfAttrsCount(t *testing.T) {
	for _, num := range []int{1, 3, 20} {
		for _, typ := range []int{0, 1, 2, 5} {
			wantNode(t, with(field(num, typ)+one("k", 5)), withAttrs(model.Number("k", 5)))
			wantNode(t, with(field(num, typ)+wire.Number(3, 0)+row("k", 5)), withAttrs(model.Row("k", 5)))
		}
	}
	wantNode(t, with(one("k", 5)+wire.Number(3, 6)), withAttrs(model.Number("k", 6)))
	wantNode(t, with(one("k", 5)+wire.Number(3, 0)), withAttrs(model.Number("k", 0)))
	wantNode(t, with(one("k", 5)+wire.Text(1, "l")), withAttrs(model.Number("l", 5)))
	wantNodeError(t, with(one("k", 5)+wire.Text(1, "")), api.ErrName)
	wantNodeError(t, with(one("k", 5)+wire.Number(20, 0)), api.ErrAttr)
}

// P11.1: numbers are two's complement, and need not be written the least.
func TestNumbers(t *testing.T) {
	for v, want := range map[string]int64{
		"\x00":         0,
		"\x80\x00":     0,
		"\xac\x82\x00": 300,
		"\xff\xff\xff\xff\xff\xff\xff\xff\xff\x01": -1,
		"\xff\xff\xff\xff\xff\xff\xff\xff\x7f":     math.MaxInt64,
		"\x80\x80\x80\x80\x80\x80\x80\x80\x80\x01": math.MinInt64,
	} {
		wantNode(t, with("\x0a\x01k\x18"+v+"\xa0\x01\x82\x00"), withAttrs(model.Number("k", want)))
		wantNode(t, with("\x0a\x01k\x40"+v+"\xa0\x01\x87\x00"), withAttrs(model.Row("k", want)))
		wantNode(t, with("\x0a\x01k"+wire.Text(8, v+v)+"\xa0\x01\x07"), withAttrs(model.Row("k", want, want)))
		wantInfo(t, infoOf(dims("\x08"+v)), model.Info{Name: "a", Kind: kind.Int, Dims: ints(want)})
	}
	wantInfo(t, inInfo("\x08\x87\x80\x00"), model.Info{Name: "a", Kind: kind.Int})
	wantNode(t, "\x8a\x80\x00\x81\x00x\x12\x01y", model.Node{In: names("x"), Out: "y"})
}

// P11.1: a row may be cut into any fields.
func TestRows(t *testing.T) {
	l := ints(1, -1, 0, 300, math.MinInt64)
	want := withAttrs(model.Row("k", l...))
	for cut := range len(l) + 1 {
		wantNode(t, with(pack.Put(8, l[:cut])+row("k", l[cut:]...)), want)
		wantNode(t, with(pack.Put(8, l[:cut])+wire.Text(8, "")+row("k")+pack.Put(8, l[cut:])), want)
	}
	var single string
	for _, n := range l {
		single += wire.Number(8, uint64(n))
	}
	wantNode(t, with(single+row("k")), want)
	wantNode(t, with(row("k", l...)+single), withAttrs(model.Row("k", append(slices.Clone(l), l...)...)))
	most := make([]int64, api.MaxElems)
	most[api.MaxElems-1] = -5
	wantNode(t, with(row("k", most...)), withAttrs(model.Row("k", most...)))
	wantNode(t, with(row("k", most[1:]...)+wire.Number(8, 9)), withAttrs(model.Row("k", append(most[1:], 9)...)))
	wantNodeError(t, with(row("k", most...)+wire.Number(8, 0)), api.ErrSize)
	wantNodeError(t, with(wire.Number(8, 0)+row("k", most...)), api.ErrSize)
}

// P11.1: the texts of the messages in an info are one message, wherever they are cut.
func TestMessagesInInfosAreOne(t *testing.T) {
	want := model.Info{Name: "a", Kind: kind.Int, Dims: ints(1, 300)}
	d := dims(dim(1), dim(300))
	tens := wire.Number(1, 7) + wire.Text(2, d)
	typ := wire.Text(1, tens)
	cuts := func(num int, b string, around func(b string) string) {
		t.Helper()
		for i := range len(b) + 1 {
			wantInfo(t, around(wire.Text(num, b[:i])+wire.Text(num, b[i:])), want)
			wantInfo(t, around(wire.Text(num, "")+wire.Text(num, b[:i])+field(9, 0)+wire.Text(num, b[i:])), want)
		}
		var each string
		for i := range len(b) {
			each += wire.Text(num, b[i:i+1])
		}
		wantInfo(t, around(each), want)
	}
	cuts(2, typ, func(b string) string { return wire.Text(1, "a") + b })
	cuts(1, tens, func(b string) string { return wire.Text(2, b) + wire.Text(1, "a") })
	cuts(2, d, func(b string) string { return inInfo(wire.Number(1, 7) + b) })
	// In their order.
	wantInfo(t, inInfo(wire.Number(1, 7)+wire.Text(2, dims(dim(300)))+wire.Text(2, dims(dim(1)))), model.Info{Name: "a", Kind: kind.Int, Dims: ints(300, 1)})
	// Whole messages behind each other: numbers are the last ones, lists go on.
	wantInfo(t, wire.Text(1, "a")+wire.Text(2, wire.Text(1, wire.Number(1, 9)+wire.Text(2, dims(dim(1)))))+wire.Text(2, wire.Text(1, wire.Number(1, 7)+wire.Text(2, dims(dim(300))))), want)
	// Dimensions are each of one text alone.
	wantInfo(t, infoOf(dims(dim(1)+dim(300))), model.Info{Name: "a", Kind: kind.Int, Dims: ints(300)})
	wantInfoError(t, infoOf(dims("\x08", "\x05")), api.ErrShort)
}

// P11.1: what isn't there is 0, or empty; of dimensions there are none.
func TestWhatIsNotInInfos(t *testing.T) {
	want := model.Info{Name: "a", Kind: kind.Int}
	wantInfo(t, inInfo(wire.Number(1, 7)), want)
	wantInfo(t, inInfo(wire.Number(1, 7)+wire.Text(2, "")), want)
	wantInfo(t, inInfo(wire.Text(2, dims(dim(5)))+wire.Number(1, 7)), model.Info{Name: "a", Kind: kind.Int, Dims: ints(5)})
	for _, b := range []string{"", wire.Text(2, ""), wire.Text(2, wire.Text(1, "")), wire.Text(2, wire.Text(1, wire.Text(2, dims(dim(5)))))} {
		wantInfoError(t, wire.Text(1, "a")+b, api.ErrKind)
		wantInfoError(t, b, api.ErrName)
	}
	wantInfoError(t, wire.Text(2, wire.Text(1, wire.Number(1, 7))), api.ErrName)
}

// P11.1: of an info's Name, its Kind, and a dimension's number the last field counts, whatever those ahead are.
func TestLastFieldsOfInfosCount(t *testing.T) {
	want := model.Info{Name: "a", Kind: kind.Int, Dims: ints(5)}
	for _, typ := range []int{0, 1, 2, 5} {
		x := field(1, typ)
		wantInfo(t, x+infoOf(dims(dim(5))), want)
		wantInfo(t, inInfo(x+wire.Number(1, 7)+wire.Text(2, dims(dim(5)))), want)
		wantInfo(t, infoOf(dims(x+dim(5))), want)
	}
	wantInfo(t, infoOf(dims(dim(5)))+wire.Text(1, "b"), model.Info{Name: "b", Kind: kind.Int, Dims: ints(5)})
	wantInfo(t, inInfo(wire.Number(1, 7)+wire.Number(1, 14)), model.Info{Name: "a", Kind: kind.Gauss})
	wantInfo(t, infoOf(dims(dim(5)+dim(0))), model.Info{Name: "a", Kind: kind.Int, Dims: ints(0)})
	wantInfoError(t, infoOf("")+wire.Text(1, ""), api.ErrName)
	wantInfoError(t, inInfo(wire.Number(1, 7)+wire.Number(1, 0)), api.ErrKind)
}

// P11.1: messages that are none, or too long.
func TestErrorsOfMessages(t *testing.T) {
	wrong := map[string]api.Errno{
		"\x80":                     api.ErrShort,
		"\x18":                     api.ErrShort,
		"\x4a\x05\x00":             api.ErrShort,
		"\x4d\x00\x00\x00":         api.ErrShort,
		strings.Repeat("\x80", 10): api.ErrLong,
		"\x48\xff" + "\xff\xff\xff\xff" + "\xff\xff\xff\xff\x02": api.ErrLong,
		"\x4b":     api.ErrWire,
		"\x4e":     api.ErrWire,
		"\x00\x00": api.ErrWire,
	}
	for x, want := range wrong {
		wantNodeError(t, x, want)
		wantNodeError(t, with(row("k"))+x, want)
		wantNodeError(t, with(x), want)
		wantNodeError(t, with(row("a"), row("k")+x), want)
		wantInfoError(t, x, want)
		wantInfoError(t, infoOf("")+x, want)
		wantInfoError(t, wire.Text(1, "a")+wire.Text(2, x), want)
		wantInfoError(t, inInfo(x), want)
		wantInfoError(t, inInfo(wire.Number(1, 7)+x), want)
		wantInfoError(t, infoOf(x), want)
		wantInfoError(t, infoOf(dims(dim(1))+x), want)
		wantInfoError(t, infoOf(dims(x)), want)
		wantInfoError(t, infoOf(dims(dim(1), dim(2)+x)), want)
	}
	for _, full := range []string{with(row("k", 1, 2), one("l", 5)), infoOf(dims(dim(1), dim(300)))} {
		for n := range len(full) {
			if _, e := wire.Fields(full[:n]); e != api.OK {
				wantNodeError(t, full[:n], e)
				wantInfoError(t, full[:n], e)
			}
		}
	}
	fill := func(b string, more int) string {
		return b + wire.Text(100, strings.Repeat("x", api.MaxBytes-len(b)-5+more))
	}
	if n := len(fill(bare, 0)); n != api.MaxBytes {
		t.Fatalf("the longest message has %d bytes", n)
	}
	wantNode(t, fill(bare, 0), withAttrs())
	wantNodeError(t, fill(bare, 1), api.ErrLong)
	wantInfo(t, fill(infoOf(""), 0), model.Info{Name: "a", Kind: kind.Int})
	wantInfoError(t, fill(infoOf(""), 1), api.ErrLong)
}

// P11.1: each field of a node that counts is of its Type; of lists, and of the Out, any.
func TestErrorsOfTypesInNodes(t *testing.T) {
	full := with(row("k", 1)) + wire.Text(7, "")
	for _, num := range []int{1, 2, 4, 5, 7} {
		for _, typ := range []int{0, 1, 5} {
			x := field(num, typ)
			wantNodeError(t, full+x, api.ErrWire)
			wantNodeError(t, x, api.ErrWire)
			wantNodeError(t, full+x+"\x80", api.ErrShort)
			// Ahead of what else is told of a node, and of its attributes.
			wantNodeError(t, full+wire.Text(2, "z")+x, api.ErrWire)
			wantNodeError(t, wire.Text(5, "\x80")+full+x, api.ErrWire)
			if num == 1 || num == 2 || num == 5 {
				wantNodeError(t, x+full, api.ErrWire)
			}
		}
	}
	wantNodeError(t, full+wire.Text(7, "z")+field(4, 0), api.ErrWire)
	wantNodeError(t, "\x10\x01", api.ErrWire)
}

// P11.1: each field of an attribute that counts is of its Type.
func TestErrorsOfTypesInAttrs(t *testing.T) {
	for num, may := range map[int][]int{1: {2}, 3: {0}, 8: {0, 2}, 20: {0}} {
		for _, typ := range []int{0, 1, 2, 5} {
			if slices.Contains(may, typ) {
				continue
			}
			x := field(num, typ)
			// Whatever the form is: a row's number is told, too, and a number's row.
			for _, full := range []string{one("k", 1), row("k", 1), "", wire.Text(1, "k"), one("", 1), wire.Text(8, "\x01") + one("k", 1)} {
				wantNodeError(t, with(full+x), api.ErrWire)
				wantNodeError(t, with(full+x+"\x80"), api.ErrShort)
			}
			if num != 8 {
				wantNodeError(t, with(wire.Text(8, "\x80")+x), api.ErrWire)
				wantNodeError(t, with(wire.Text(8, strings.Repeat("\x80", 10))+row("k", 1)+x), api.ErrWire)
				wantNodeError(t, with(row("k", make([]int64, api.MaxElems+1)...)+x), api.ErrWire)
			} else {
				wantNodeError(t, with(x+row("k", 1)), api.ErrWire)
				wantNodeError(t, with(x+one("k", 1)), api.ErrWire)
			}
		}
	}
}

// P11.1: each field of an info that counts is of its Type; of messages that are put together, and of dimensions, any.
func TestErrorsOfTypesInInfos(t *testing.T) {
	d := dims(dim(5))
	tens := wire.Number(1, 7) + wire.Text(2, d)
	for _, typ := range []int{0, 1, 5} {
		wantInfoError(t, infoOf(d)+field(1, typ), api.ErrWire)
		wantInfoError(t, infoOf(d)+field(2, typ), api.ErrWire)
		wantInfoError(t, field(2, typ)+infoOf(d), api.ErrWire)
		wantInfoError(t, wire.Text(1, "a")+wire.Text(2, wire.Text(1, tens)+field(1, typ)), api.ErrWire)
		wantInfoError(t, wire.Text(1, "a")+wire.Text(2, field(1, typ)+wire.Text(1, tens)), api.ErrWire)
		wantInfoError(t, inInfo(tens+field(2, typ)), api.ErrWire)
		wantInfoError(t, inInfo(field(2, typ)+tens), api.ErrWire)
		wantInfoError(t, infoOf(d+field(1, typ)), api.ErrWire)
		wantInfoError(t, infoOf(field(1, typ)+d), api.ErrWire)
	}
	for _, typ := range []int{1, 2, 5} {
		wantInfoError(t, inInfo(tens+field(1, typ)), api.ErrWire)
		wantInfoError(t, inInfo(field(1, typ)), api.ErrWire)
		wantInfoError(t, infoOf(dims(field(1, typ))), api.ErrWire)
		wantInfoError(t, infoOf(dims(dim(5), dim(5)+field(1, typ))), api.ErrWire)
	}
}

// P11.1: rows that are none, in layer 3's order, whatever the form is.
func TestErrorsOfRows(t *testing.T) {
	cut, long, many := wire.Text(8, "\x80"), wire.Text(8, strings.Repeat("\x80", 10)), pack.Put(8, make([]int64, api.MaxElems+1))
	for b, want := range map[string]api.Errno{
		cut:                             api.ErrShort,
		long:                            api.ErrLong,
		many:                            api.ErrSize,
		field(8, 5):                     api.ErrWire,
		cut + long:                      api.ErrShort,
		long + cut:                      api.ErrLong,
		many + cut:                      api.ErrSize,
		cut + many:                      api.ErrShort,
		field(8, 1) + cut:               api.ErrWire,
		wire.Number(8, 1) + long + many: api.ErrLong,
	} {
		wantNodeError(t, with(row("k", 1)+b), want)
		wantNodeError(t, with(one("k", 1)+b), want)
		wantNodeError(t, with(one("", 1)+b), want)
		wantNodeError(t, with(b), want)
	}
}

// P11.1: an attribute's Name is a name of layer 7.
func TestErrorsOfAttrNames(t *testing.T) {
	for _, name := range []string{"", " ", "a b", "\x7f", "ä", "a\n", "\x00", strings.Repeat("a", 65), strings.Repeat("a", 256+1)} {
		for _, b := range []string{one(name, 1), row(name, 1), wire.Text(1, name), wire.Text(1, name) + wire.Number(20, 5)} {
			wantNodeError(t, with(b), api.ErrName)
			wantNodeError(t, with(one("a", 1), b), api.ErrName)
		}
	}
	wantNodeError(t, with(""), api.ErrName)
	wantNodeError(t, with(wire.Number(20, 2)), api.ErrName)
}

// P11.1: just one Out, and at most 64 In.
func TestArity(t *testing.T) {
	for _, n := range []int{0, 1, 2, 63, 64} {
		wantNode(t, strings.Repeat("\x0a\x01x", n)+"\x12\x01y", model.Node{In: slices.Repeat(names("x"), n), Out: "y"})
	}
	for _, n := range []int{65, 66, 128, 256, 257, 1000} {
		wantNodeError(t, strings.Repeat("\x0a\x01x", n)+"\x12\x01y", api.ErrArity)
		wantNodeError(t, strings.Repeat("\x0a\x00", n)+"\x12\x01y", api.ErrArity)
	}
	for _, n := range []int{0, 2, 3, 64, 257} {
		wantNodeError(t, "\x0a\x01x"+strings.Repeat("\x12\x01y", n), api.ErrArity)
		wantNodeError(t, "\x0a\x01x"+strings.Repeat("\x12\x00", n), api.ErrArity)
	}
	wantNodeError(t, "", api.ErrArity)
	wantNodeError(t, bare+wire.Text(2, ""), api.ErrArity)
}

// P11.1: two attributes of one Name are told behind all attributes' own errors.
func TestTwice(t *testing.T) {
	wantNodeError(t, with(one("k", 1), one("k", 1)), api.ErrTwice)
	wantNodeError(t, with(one("k", 1), row("k", 1)), api.ErrTwice)
	wantNodeError(t, with(row("k"), one("l", 1), row("m"), one("k", 2)), api.ErrTwice)
	wantNodeError(t, with(row("k"), row("k"), row("k")), api.ErrTwice)
	wantNode(t, with(one("k", 1), one("K", 1), one("kk", 1)), withAttrs(model.Number("k", 1), model.Number("K", 1), model.Number("kk", 1)))
	wantNodeError(t, with(one("k", 1), one("k", 1), one("", 1)), api.ErrName)
	wantNodeError(t, with(one("k", 1), one("k", 1), wire.Text(1, "k")), api.ErrAttr)
	wantNodeError(t, with(one("k", 1), one("k", 1), "\x80"), api.ErrShort)
	wantNodeError(t, with(one("k", 1), one("k", 1)+wire.Text(8, strings.Repeat("\x80", 10))), api.ErrLong)
	// An attribute that is wrong itself is met at its own place.
	wantNodeError(t, with(one("k", 1), wire.Text(1, "k"), one("", 1)), api.ErrAttr)
	wantNodeError(t, with(one("k", 1), one("", 1), wire.Text(1, "k")), api.ErrName)
}

// P11.1: an info's Name is a name of layer 7, its Kind one of layer 4.
func TestErrorsOfInfoNamesAndKinds(t *testing.T) {
	for _, name := range []string{"", " ", "a b", "\x7f", "ä", "a\n", strings.Repeat("a", 65), strings.Repeat("a", 256+1)} {
		wantInfoError(t, infoOf("")+wire.Text(1, name), api.ErrName)
		wantInfoError(t, inInfo(wire.Number(1, 3))+wire.Text(1, name), api.ErrName)
	}
	for n := range uint64(300) {
		if k := kind.Kind(n); slices.Contains(kind.All(), k) {
			wantInfo(t, inInfo(wire.Number(1, n)), model.Info{Name: "a", Kind: k})
		} else {
			wantInfoError(t, inInfo(wire.Number(1, n)), api.ErrKind)
		}
	}
	for _, n := range []uint64{1<<32 + 7, 1<<63 + 7, 1<<63 - 1, 1 << 63, math.MaxUint64 - 6, math.MaxUint64} {
		wantInfoError(t, inInfo(wire.Number(1, n)), api.ErrKind)
	}
}

// P11.1: a dimension must have its number, be it 0; of dimensions the first that is wrong is told.
func TestErrorsOfDims(t *testing.T) {
	for _, b := range []string{"", field(2, 2), field(2, 0) + field(3, 5)} {
		wantInfoError(t, infoOf(dims(b)), api.ErrShape)
		wantInfoError(t, infoOf(dims(dim(1), b)), api.ErrShape)
		wantInfoError(t, infoOf(dims(b, dim(1))), api.ErrShape)
		wantInfoError(t, infoOf(dims(b, "\x80")), api.ErrShape)
		wantInfoError(t, infoOf(dims(b, field(1, 5))), api.ErrShape)
		wantInfoError(t, infoOf(dims("\x80", b)), api.ErrShort)
		wantInfoError(t, infoOf(dims(strings.Repeat("\x80", 10), b)), api.ErrLong)
		wantInfoError(t, infoOf(dims(field(1, 5), b)), api.ErrWire)
		// Ahead of the Name and the Kind.
		wantInfoError(t, infoOf(dims(b))+wire.Text(1, ""), api.ErrShape)
		wantInfoError(t, inInfo(wire.Number(1, 3)+wire.Text(2, dims(b))), api.ErrShape)
		wantInfoError(t, infoOf(dims(b)+"\x80"), api.ErrShort)
	}
	wantInfo(t, infoOf(dims(dim(0))), model.Info{Name: "a", Kind: kind.Int, Dims: ints(0)})
}

// P11.1: of several faults of a node the one is told that the chapter names first.
func TestFirstFaultsOfNodes(t *testing.T) {
	type fault struct {
		b string
		e api.Errno
	}
	l := []fault{
		{"\x80", api.ErrShort},
		{field(4, 0), api.ErrWire},
		{wire.Text(2, "z"), api.ErrArity},
		{wire.Text(7, "z"), api.ErrOp},
	}
	attrs := []fault{
		{"\x80", api.ErrShort},
		{field(3, 2), api.ErrWire},
		{wire.Text(8, strings.Repeat("\x80", 10)), api.ErrLong},
		{wire.Text(1, ""), api.ErrName},
		{wire.Number(20, 1), api.ErrAttr},
	}
	for i, first := range l {
		for _, later := range l[i+1:] {
			wantNodeError(t, with(one("k", 1))+later.b+first.b, first.e)
		}
		for _, later := range attrs {
			wantNodeError(t, with(one("k", 1)+later.b)+first.b, first.e)
		}
		wantNodeError(t, with(one("k", 1), one("k", 1))+first.b, first.e)
	}
	for i, first := range attrs {
		var all string
		for _, later := range attrs[i+1:] {
			wantNodeError(t, with(one("k", 1)+later.b+first.b), first.e)
			all = later.b + all
		}
		wantNodeError(t, with(one("k", 1)+all+first.b), first.e)
		for _, later := range attrs {
			wantNodeError(t, with(one("k", 1)+first.b, one("l", 1)+later.b), first.e)
		}
		wantNodeError(t, with(one("k", 1), one("k", 1), one("l", 1)+first.b), first.e)
	}
	wantNodeError(t, strings.Repeat("\x0a\x00", 65)+bare+wire.Text(7, "z"), api.ErrArity)
}

// P11.1: of several faults of an info the outer one is told first.
func TestFirstFaultsOfInfos(t *testing.T) {
	const (
		outer = iota
		typ
		tens
		inDims
	)
	long := strings.Repeat("\x80", 10)
	l := []struct {
		at int
		b  string
		e  api.Errno
	}{
		{outer, long, api.ErrLong},
		{outer, field(2, 0), api.ErrWire},
		{outer, field(1, 0), api.ErrWire},
		{typ, long, api.ErrLong},
		{typ, field(1, 5), api.ErrWire},
		{tens, long, api.ErrLong},
		{tens, field(1, 5), api.ErrWire},
		{tens, field(2, 5), api.ErrWire},
		{inDims, long, api.ErrLong},
		{inDims, field(1, 5), api.ErrWire},
		{inDims, dims("\x80"), api.ErrShort},
		{inDims, dims(field(1, 2)), api.ErrWire},
		{inDims, dims(""), api.ErrShape},
		{outer, wire.Text(1, ""), api.ErrName},
		{tens, wire.Number(1, 3), api.ErrKind},
	}
	for i, first := range l {
		for j, later := range l[i:] {
			var p [4]string
			p[first.at] = first.b
			switch {
			case j == 0:
			case later.at == inDims:
				// Dimension by dimension: what is told first stands first.
				p[inDims] += later.b
			default:
				// The last field counts.
				p[later.at] = later.b + p[later.at]
			}
			t4 := wire.Number(1, 7) + p[tens] + wire.Text(2, dims(dim(1))+p[inDims])
			wantInfoError(t, wire.Text(1, "a")+p[outer]+wire.Text(2, wire.Text(1, t4)+p[typ]), first.e)
		}
	}
	wantInfoError(t, "\x80"+infoOf("\x80"), api.ErrShort)
}

// R3: what is answered is new memory, and what is handed in stays as it is.
func TestNothingIsShared(t *testing.T) {
	b := with(row("k", 1, 2), one("l", 3), row("m", 4))
	want := withAttrs(model.Row("k", 1, 2), model.Number("l", 3), model.Row("m", 4))
	for range 3 {
		wantNode(t, b, want)
		n, _ := ReadNode(b)
		fill(n.In, "z")
		for _, a := range n.Attrs {
			fill(a.Ints, 99)
		}
		if k, m := n.Attrs[0].Ints, n.Attrs[2].Ints; len(k) != 2 || len(m) != 1 {
			t.Errorf("rows are %v and %v", k, m)
		}
		fill(n.Attrs, model.Attr{})
		i, _ := ReadInfo(infoOf(dims(dim(5), dim(6))))
		fill(i.Dims, 99)
		wantInfo(t, infoOf(dims(dim(5), dim(6))), model.Info{Name: "a", Kind: kind.Int, Dims: ints(5, 6)})
	}
	in, l, d := names("x", "y", "z"), []model.Attr{model.Row("k", 1), model.Row("l", 2), model.Row("m", 3)}, ints(1, 2, 3)
	whole := model.Node{Op: "O", In: slices.Clone(in), Out: "o", Attrs: []model.Attr{model.Row("k", 1), model.Row("l", 2), model.Row("m", 3)}}
	for range 3 {
		wantNode(t, PutNode(model.Node{Op: "O", In: in[:2], Out: "o", Attrs: l[:2]}), model.Node{Op: "O", In: names("x", "y"), Out: "o", Attrs: whole.Attrs[:2]})
		wantInfo(t, PutInfo(model.Info{Name: "a", Kind: kind.Int, Dims: d[:2]}), model.Info{Name: "a", Kind: kind.Int, Dims: ints(1, 2)})
	}
	if !strict(model.Node{Op: "O", In: in, Out: "o", Attrs: l}, whole) || !slices.Equal(d, ints(1, 2, 3)) {
		t.Errorf("what was handed in is %v, %v, %v now", in, l, d)
	}
}

// fill fills a list with a value, and the room behind its end.
func fill[E any](l []E, with E) {
	l = l[:cap(l)]
	for i := range l {
		l[i] = with
	}
}

// slow is the chapter's words of one message, said another way: the Type of each Num of which the last field counts, and the Nums of which all must be texts.
type slow struct {
	last map[int]int
	all  []int
}

// fields are the fields of a message by their Nums, or what is wrong with their Types.
func (s slow) fields(b string) (map[int][]wire.Field, api.Errno) {
	l, e := wire.Fields(b)
	if e != api.OK {
		return nil, e
	}
	by := map[int][]wire.Field{}
	for _, f := range l {
		by[f.Num] = append(by[f.Num], f)
	}
	for num, typ := range s.last {
		if n := len(by[num]); n > 0 && by[num][n-1].Type != typ {
			return nil, api.ErrWire
		}
	}
	for _, num := range s.all {
		for _, f := range by[num] {
			if f.Type != 2 {
				return nil, api.ErrWire
			}
		}
	}
	return by, api.OK
}

// slowLast is the last one of fields; the zero one of none.
func slowLast(l []wire.Field) (f wire.Field) {
	for _, f = range l {
	}
	return f
}

// slowName says what layer 7 says of names.
func slowName(s string) bool {
	return len(s) > 0 && len(s) < 65 && strings.Trim(s, "!\"#$%&'()*+,-./0123456789:;<=>?@ABCDEFGHIJKLMNOPQRSTUVWXYZ[\\]^_`abcdefghijklmnopqrstuvwxyz{|}~") == ""
}

func slowNode(b string) (model.Node, api.Errno) {
	by, e := slow{map[int]int{4: 2, 7: 2}, []int{1, 2, 5}}.fields(b)
	switch {
	case e != api.OK:
		return model.Node{}, e
	case len(by[2]) != 1 || len(by[1]) > 64:
		return model.Node{}, api.ErrArity
	case slowLast(by[7]).Data != "":
		return model.Node{}, api.ErrOp
	}
	n := model.Node{Op: slowLast(by[4]).Data, Out: by[2][0].Data}
	for _, f := range by[1] {
		n.In = append(n.In, f.Data)
	}
	for _, f := range by[5] {
		a, e := slowAttr(f.Data)
		if e != api.OK {
			return model.Node{}, e
		}
		n.Attrs = append(n.Attrs, a)
	}
	for i, a := range n.Attrs {
		for _, c := range n.Attrs[:i] {
			if a.Name == c.Name {
				return model.Node{}, api.ErrTwice
			}
		}
	}
	return n, api.OK
}

func slowAttr(b string) (a model.Attr, e api.Errno) {
	by, e := slow{last: map[int]int{1: 2, 3: 0, 20: 0}}.fields(b)
	if e != api.OK {
		return a, e
	}
	l, e := pack.Ints(by[8], 8)
	if e != api.OK {
		return a, e
	}
	name := slowLast(by[1]).Data
	if !slowName(name) {
		return a, api.ErrName
	}
	switch slowLast(by[20]).N {
	case 2:
		return model.Attr{Name: name, One: true, Int: int64(slowLast(by[3]).N)}, api.OK
	case 7:
		return model.Attr{Name: name, Ints: l}, api.OK
	}
	return a, api.ErrAttr
}

// slowInner are the fields of the message in texts, told of by s.
func slowInner(l []wire.Field, s slow) (map[int][]wire.Field, api.Errno) {
	b := ""
	for _, f := range l {
		b += f.Data
	}
	return s.fields(b)
}

func slowInfo(b string) (model.Info, api.Errno) {
	none := model.Info{}
	outer, e := slow{map[int]int{1: 2}, []int{2}}.fields(b)
	if e != api.OK {
		return none, e
	}
	typ, e := slowInner(outer[2], slow{all: []int{1}})
	if e != api.OK {
		return none, e
	}
	tens, e := slowInner(typ[1], slow{map[int]int{1: 0}, []int{2}})
	if e != api.OK {
		return none, e
	}
	shape, e := slowInner(tens[2], slow{all: []int{1}})
	if e != api.OK {
		return none, e
	}
	i := model.Info{Name: slowLast(outer[1]).Data}
	for _, f := range shape[1] {
		d, e := slow{last: map[int]int{1: 0}}.fields(f.Data)
		if e != api.OK {
			return none, e
		}
		if len(d[1]) == 0 {
			return none, api.ErrShape
		}
		i.Dims = append(i.Dims, int64(slowLast(d[1]).N))
	}
	if !slowName(i.Name) {
		return none, api.ErrName
	}
	n := slowLast(tens[1]).N
	if !slices.Contains([]uint64{1, 2, 7, 9, 14}, n) {
		return none, api.ErrKind
	}
	i.Kind = kind.Kind(n)
	return i, api.OK
}

// wantAsSlowNode wants a message to be read as the slower reading says, and what is read to be put and read again.
func wantAsSlowNode(t *testing.T, b string) api.Errno {
	t.Helper()
	got, e := ReadNode(b)
	want, wantE := slowNode(b)
	if e != wantE || !strict(got, want) {
		t.Fatalf("ReadNode(%q) is %+v, %v; want %+v, %v", b, got, e, want, wantE)
	}
	if e == api.OK {
		back, again := ReadNode(PutNode(got))
		if again != api.OK || !strict(back, got) {
			t.Fatalf("what is put of %+v is read as %+v, %v", got, back, again)
		}
	}
	return e
}

func wantAsSlowInfo(t *testing.T, b string) api.Errno {
	t.Helper()
	got, e := ReadInfo(b)
	want, wantE := slowInfo(b)
	if e != wantE || !alike(got, want) {
		t.Fatalf("ReadInfo(%q) is %+v, %v; want %+v, %v", b, got, e, want, wantE)
	}
	if e == api.OK {
		back, again := ReadInfo(PutInfo(got))
		if again != api.OK || !alike(back, got) {
			t.Fatalf("what is put of %+v is read as %+v, %v", got, back, again)
		}
	}
	return e
}

// mix is a message of some of many parts, each once at most times, in any order, and now and then cut short.
func mix(next func(n int) int, most int, parts [][]string) string {
	var l []string
	for _, of := range parts {
		for range 1 + next(most) {
			l = slices.Insert(l, next(len(l)+1), of[next(len(of))])
		}
	}
	b := strings.Join(l, "")
	if next(100) == 0 {
		b = b[:next(len(b)+1)]
	}
	return b
}

// someAttrs are parts of attributes' messages, right ones and wrong ones, of which many fit together.
func someAttrs() [][]string {
	return [][]string{
		{wire.Text(1, "a"), wire.Text(1, "b"), wire.Text(1, "c"), wire.Text(1, "d"), wire.Text(1, "e"), wire.Text(1, "f"), wire.Text(1, "gh"), wire.Text(1, "gh"), wire.Text(1, ""), wire.Number(1, 1)},
		{"", "", wire.Number(3, 0), wire.Number(3, 5), wire.Number(3, math.MaxUint64), wire.Number(3, 6), wire.Number(3, 7), wire.Number(3, 8), wire.Text(3, "")},
		{"", "", "", "", pack.Put(8, ints(1, 2)), pack.Put(8, ints(-1)), wire.Number(8, 300), wire.Text(8, ""), wire.Text(8, "\x80"), field(8, 5)},
		{wire.Number(20, 2), wire.Number(20, 7), wire.Number(20, 2), wire.Number(20, 7), wire.Number(20, 2), wire.Number(20, 7), wire.Number(20, 2), wire.Number(20, 7), wire.Number(20, 1), "", wire.Text(20, "")},
		{"", "", "", field(2, 0), field(4, 1), field(9, 2), field(28, 5)},
	}
}

// someNodes are parts of nodes' messages, but for their attributes.
func someNodes() [][]string {
	return [][]string{
		{"", wire.Text(1, "x"), wire.Text(1, ""), wire.Text(1, "x y"), wire.Text(1, "z"), wire.Text(1, "w"), wire.Text(1, "v"), wire.Text(1, "u"), strings.Repeat("\x0a\x00", 63), wire.Number(1, 1)},
		{wire.Text(2, "y"), wire.Text(2, "y"), wire.Text(2, "z"), wire.Text(2, ""), wire.Text(2, "w"), wire.Text(2, "v"), wire.Text(2, "u"), "", "", "", wire.Number(2, 1)},
		{"", wire.Text(4, "Add"), wire.Text(4, "Neg"), wire.Text(4, ""), wire.Text(4, "No"), wire.Text(4, "Or"), wire.Number(4, 1)},
		{"", "", "", "", "", "", wire.Text(7, ""), wire.Text(7, ""), wire.Text(7, "a"), wire.Number(7, 0)},
		{"", "", "", field(3, 0), field(6, 1), field(8, 2), field(20, 5)},
	}
}

// P11.1: messages of all parts, in all orders, are read as the slower reading says.
func TestReadNodeOfManyMessages(t *testing.T) {
	next, met := rule(), map[api.Errno]int{}
	for range 100000 {
		parts := someNodes()
		for range next(4) {
			parts = append(parts, []string{wire.Text(5, mix(next, 1+next(20)/19, someAttrs()))})
		}
		if next(50) == 0 {
			parts = append(parts, []string{field(5, 0)})
		}
		met[wantAsSlowNode(t, mix(next, 1+next(5)/4, parts))]++
	}
	for _, e := range []api.Errno{api.OK, api.ErrShort, api.ErrWire, api.ErrArity, api.ErrOp, api.ErrName, api.ErrAttr, api.ErrTwice} {
		if met[e] < 500 {
			t.Errorf("%v is met %d times", e, met[e])
		}
	}
}

// mixInfo is an info's message of some of many parts.
func mixInfo(next func(n int) int) string {
	often := func() int { return 1 + next(10)/9 }
	var l [][]string
	for range next(4) {
		l = append(l, dimsOf(next))
	}
	shape := mix(next, often(), append(l, []string{"", "", "", field(2, 0), field(3, 5)}))
	tens := mix(next, often(), [][]string{
		{wire.Number(1, 7), wire.Number(1, 1), wire.Number(1, 2), wire.Number(1, 9), wire.Number(1, 14), wire.Number(1, 3), wire.Text(1, ""), ""},
		halves(next, 2, shape),
		{"", "", field(3, 1)},
	})
	typ := mix(next, often(), [][]string{halves(next, 1, tens), {"", "", field(2, 0), field(6, 2)}})
	return mix(next, often(), [][]string{
		{wire.Text(1, "a"), wire.Text(1, "b"), wire.Text(1, "cd"), wire.Text(1, "e"), wire.Text(1, "f"), wire.Text(1, ""), wire.Number(1, 1), ""},
		halves(next, 2, typ),
		{"", "", field(3, 2)},
	})
}

// dimsOf are fields of a dimension, of which one is to be taken.
func dimsOf(next func(n int) int) []string {
	n := wire.Number(1, uint64(next(300)))
	return []string{dims(n), dims(n), dims(n), dims(n), dims(n + n), dims(field(2, 2) + n), dims(dim(-1)), dims(n + field(1, 2)), dims(""), dims(field(2, 0)), field(1, 0)}
}

// halves are writings of a message as texts of a Num, of which one is to be taken: whole, or in two.
func halves(next func(n int) int, num int, b string) []string {
	cut := next(len(b) + 1)
	whole, two := wire.Text(num, b), wire.Text(num, b[:cut])+wire.Text(num, b[cut:])
	return []string{whole, whole, whole, whole, whole, two, two, two, two, two, whole + field(num, 5)}
}

// P11.1: messages of all parts, in all orders, are read as the slower reading says.
func TestReadInfoOfManyMessages(t *testing.T) {
	next, met := rule(), map[api.Errno]int{}
	for range 100000 {
		met[wantAsSlowInfo(t, mixInfo(next))]++
	}
	for _, e := range []api.Errno{api.OK, api.ErrShort, api.ErrWire, api.ErrShape, api.ErrName, api.ErrKind} {
		if met[e] < 500 {
			t.Errorf("%v is met %d times", e, met[e])
		}
	}
}

// FuzzRead: any bytes are read as the slower reading says, and what is read is put and read again.
func FuzzRead(f *testing.F) {
	for _, of := range someNodes() {
		for _, part := range of {
			f.Add([]byte(bare + part))
		}
	}
	for _, of := range someAttrs() {
		for _, part := range of {
			f.Add([]byte(with(one("k", 5) + part)))
			f.Add([]byte(with(part+row("k", 5), one("l", 5))))
		}
	}
	next := rule()
	for range 100 {
		f.Add([]byte(mixInfo(next)))
	}
	f.Fuzz(func(t *testing.T, b []byte) {
		wantAsSlowNode(t, string(b))
		wantAsSlowInfo(t, string(b))
		// Dimensions and attributes alone are reached by more bytes, so.
		wantAsSlowNode(t, with(string(b)))
		wantAsSlowInfo(t, inInfo(string(b)))
		wantAsSlowInfo(t, infoOf(dims(string(b))))
	})
}
