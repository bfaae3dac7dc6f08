package pbgraph

import (
	"encoding/hex"
	"math"
	"slices"
	"strconv"
	"strings"
	"testing"

	"agate/api"
	"agate/kind"
	"agate/model"
	"agate/pack"
	"agate/pbnode"
	"agate/pbtensor"
	"agate/store"
	"agate/tensor"
	"agate/wire"
)

// opset13 is the field of an opset's message, of the version 13.
const opset13 = "\x42\x02\x10\x0d"

// broken is a message that is none, as it ends too early.
const broken = "\x80"

// tooLong is a message that is none, as a varint of it is too long.
const tooLong = "\x80\x80\x80\x80\x80\x80\x80\x80\x80\x80"

// ints is a list of numbers, shorter to write.
func ints(l ...int64) []int64 { return l }

// field is a field of a Num and a Type, with something in it.
func field(num, typ int) string {
	f := wire.Field{Num: num, Type: typ, N: 1}
	if typ == text {
		f = wire.Field{Num: num, Type: typ, Data: broken}
	}
	return f.Bytes()
}

// node is a node of a name and its writing's field in a graph.
func node(out string) (model.Node, string) {
	n := model.Node{Op: "Neg", In: []string{"x"}, Out: out, Attrs: []model.Attr{model.Number("a", 1), model.Row("b", 2, 3)}}
	return n, wire.Text(1, pbnode.PutNode(n))
}

// init1 is a tensor of a name, and its writing's field in a graph.
func init1(name string) (tensor.Tensor, string) {
	t := tensor.OfInts(name, ints(2), 5, -6)
	b, _ := pbtensor.Put(t)
	return t, wire.Text(5, b)
}

// info is an info of a name, and its writing's field of a Num in a graph.
func info(num int, name string) (model.Info, string) {
	i := model.Info{Name: name, Kind: kind.Int, Dims: ints(2, 1)}
	return i, wire.Text(num, pbnode.PutInfo(i))
}

// parts are fields of a graph, one of each.
func parts() (n, t, in, out string) {
	_, n = node("n")
	_, t = init1("t")
	_, in = info(11, "i")
	_, out = info(12, "o")
	return n, t, in, out
}

// full is the model of parts.
func full() model.Model {
	n, _ := node("n")
	t, _ := init1("t")
	in, _ := info(11, "i")
	out, _ := info(12, "o")
	return model.Model{Opset: 13, Nodes: []model.Node{n}, Inits: []tensor.Tensor{t}, Inputs: []model.Info{in}, Outputs: []model.Info{out}}
}

// graph is the writing of parts as a graph's message.
func graph() string {
	n, t, in, out := parts()
	return n + t + in + out
}

// whole is a model's message around a graph's.
func whole(graph string) string { return wire.Text(7, graph) + opset13 }

// opsetOf is the field of an opset's message.
func opsetOf(domain string, version uint64) string {
	return wire.Text(8, wire.Text(1, domain)+wire.Number(2, version))
}

// files is a store with some whole numbers.
func files(t testing.TB) store.Store {
	t.Helper()
	s, e := store.New(store.File{Key: "w/a.bin", Data: tensor.OfInts("", nil, 5, -6, 7).Data})
	if e != api.OK {
		t.Fatal(e)
	}
	return s
}

// filed is the field of a tensor of whole numbers, so many, from a place in a file on.
func filed(name string, n int64, key, offset string) string {
	b := pack.Put(1, ints(n)) + wire.Number(2, uint64(kind.Int)) + wire.Text(8, name) + wire.Number(14, 1)
	for _, pair := range [][2]string{{"location", key}, {"offset", offset}} {
		b += wire.Text(13, wire.Text(1, pair[0])+wire.Text(2, pair[1]))
	}
	return wire.Text(5, b)
}

// rule answers numbers below n, the same each time.
func rule() func(n int) int {
	x := uint64(1)
	return func(n int) int {
		x = x*6364136223846793005 + 1442695040888963407
		return int(x >> 33 % uint64(n))
	}
}

// brief is a text to tell of.
func brief(s string) string {
	return strconv.Quote(s[:min(len(s), 160)]) + " of " + strconv.Itoa(len(s))
}

// few is a model to tell of, its lists cut short.
func few(m model.Model) model.Model {
	m.Inputs, m.Outputs = m.Inputs[:min(len(m.Inputs), 3)], m.Outputs[:min(len(m.Outputs), 3)]
	m.Inits, m.Nodes = slices.Clone(m.Inits[:min(len(m.Inits), 3)]), m.Nodes[:min(len(m.Nodes), 3)]
	for i, t := range m.Inits {
		m.Inits[i].Data = t.Data[:min(len(t.Data), 20)]
	}
	return m
}

// strict says whether two models are so in each field: what plays no part must be zero.
func strict(a, b model.Model) bool {
	return a.Same(b) && !slices.ContainsFunc(a.Nodes, func(n model.Node) bool {
		return slices.ContainsFunc(n.Attrs, func(a model.Attr) bool { return a.One && len(a.Ints) > 0 || !a.One && a.Int != 0 })
	})
}

func wantRead(t *testing.T, b string, s store.Store, want model.Model) {
	t.Helper()
	if got, e := Read(b, s); e != api.OK || !strict(got, want) {
		t.Errorf("Read(%s) is %+v, %v; want %+v, ok", brief(b), few(got), e, few(want))
	}
}

func wantReadError(t *testing.T, b string, s store.Store, want api.Errno) {
	t.Helper()
	if got, e := Read(b, s); e != want || !strict(got, model.Model{}) {
		t.Errorf("Read(%s) is %+v, %v; want the zero one, %v", brief(b), few(got), e, want)
	}
}

// wantBytes wants a model put as bytes that are told in hexadecimal, with spaces between.
func wantBytes(t *testing.T, m model.Model, want string) {
	t.Helper()
	b, err := hex.DecodeString(strings.ReplaceAll(want, " ", ""))
	if err != nil {
		t.Fatal(err)
	}
	if got, e := Put(m); e != api.OK || got != string(b) {
		t.Errorf("Put(%+v) is %x, %v; want %x, ok", few(m), got, e, b)
	}
}

// put is the writing of a model that must have one.
func put(t *testing.T, m model.Model) string {
	t.Helper()
	b, e := Put(m)
	if e != api.OK {
		t.Errorf("Put(%+v) is %v; want ok", few(m), e)
	}
	return b
}

// P12.1: the chapter's example.
func TestExample(t *testing.T) {
	m := model.Model{Opset: 13}
	wantBytes(t, m, "3a 00 42 02 10 0d")
	wantRead(t, "\x3a\x00\x42\x02\x10\x0d", store.Store{}, m)
}

// P12.1: the least writing, byte by byte.
func TestWritings(t *testing.T) {
	wantBytes(t, model.Model{}, "3a 00 42 02 10 00")
	wantBytes(t, model.Model{Opset: 300}, "3a 00 42 03 10 ac 02")
	wantBytes(t, model.Model{Opset: 1 << 31}, "3a 00 42 06 10 80 80 80 80 08")
	wantBytes(t, model.Model{Opset: -1}, "3a 00 42 0b 10 ff ff ff ff ff ff ff ff ff 01")
	wantBytes(t, model.Model{Opset: math.MaxInt64}, "3a 00 42 0a 10 ff ff ff ff ff ff ff ff 7f")
	neg := model.Node{Op: "Neg", In: []string{"x"}, Out: "y"}
	five := tensor.OfInts("a", ints(1), 5)
	x, y := model.Info{Name: "x", Kind: kind.Int, Dims: ints(3)}, model.Info{Name: "y", Kind: kind.Gauss}
	const (
		negBytes  = "0a 0b 0a 01 78 12 01 79 22 03 4e 65 67"
		fiveBytes = "2a 12 0a 01 01 10 07 42 01 61 4a 08 05 00 00 00 00 00 00 00"
		xIn       = "5a 0f 0a 01 78 12 0a 0a 08 08 07 12 04 0a 02 08 03"
		yIn       = "5a 0b 0a 01 79 12 06 0a 04 08 0e 12 00"
		yOut      = "62 0b 0a 01 79 12 06 0a 04 08 0e 12 00"
		xOut      = "62 0f 0a 01 78 12 0a 0a 08 08 07 12 04 0a 02 08 03"
		at9       = "42 02 10 09"
	)
	wantBytes(t, model.Model{Opset: 9, Nodes: []model.Node{neg}}, "3a 0d"+negBytes+at9)
	wantBytes(t, model.Model{Opset: 9, Inits: []tensor.Tensor{five}}, "3a 14"+fiveBytes+at9)
	wantBytes(t, model.Model{Opset: 9, Inputs: []model.Info{x}}, "3a 11"+xIn+at9)
	wantBytes(t, model.Model{Opset: 9, Outputs: []model.Info{x}}, "3a 11"+xOut+at9)
	all := model.Model{Opset: 9, Inputs: []model.Info{x, y}, Outputs: []model.Info{y, x}, Inits: []tensor.Tensor{five, five}, Nodes: []model.Node{neg, {}, neg}}
	wantBytes(t, all, "3a 84 01"+negBytes+"0a 04 12 00 22 00"+negBytes+fiveBytes+fiveBytes+xIn+yIn+yOut+xOut+at9)
	long := model.Model{Nodes: []model.Node{{Op: strings.Repeat("o", 300)}}}
	wantBytes(t, long, "3a b4 02 0a b1 02 12 00 22 ac 02"+strings.Repeat("6f", 300)+"42 02 10 00")
}

// P12.1: of tensors that may not be, the first one's error; nothing beside it.
func TestPutOfWrongTensors(t *testing.T) {
	wrong := []struct {
		t tensor.Tensor
		e api.Errno
	}{
		{tensor.Tensor{}, api.ErrName},
		{tensor.Tensor{Name: "a b", Kind: kind.Byte, Data: "x"}, api.ErrName},
		{tensor.Tensor{Name: "a", Kind: 3, Data: "x"}, api.ErrKind},
		{tensor.Tensor{Name: "a", Kind: kind.Byte, Dims: ints(-1)}, api.ErrShape},
		{tensor.Tensor{Name: "a", Kind: kind.Byte, Dims: ints(65537)}, api.ErrSize},
		{tensor.Tensor{Name: "a", Kind: kind.Byte}, api.ErrForm},
		{tensor.Tensor{Name: "a", Kind: kind.Flag, Data: "\x02"}, api.ErrValue},
	}
	wantError := func(want api.Errno, l ...tensor.Tensor) {
		t.Helper()
		m := full()
		m.Inits = l
		if b, e := Put(m); b != "" || e != want {
			t.Errorf("Put of %+v is %s, %v; want none, %v", l, brief(b), e, want)
		}
	}
	right, _ := init1("t")
	for _, first := range wrong {
		wantError(first.e, first.t)
		wantError(first.e, right, first.t, right)
		for _, later := range wrong {
			wantError(first.e, right, first.t, later.t)
		}
	}
}

// rightModels are such as are read as they were, when they are put.
func rightModels() []model.Model {
	m := full()
	l := []model.Model{{}, {Opset: 13}, m, {Opset: 9, Nodes: m.Nodes}, {Opset: 1, Inits: m.Inits}, {Opset: 14, Inputs: m.Inputs}, {Outputs: m.Outputs}}
	for _, n := range []int64{0, 1, 8, 9, 127, 128, 255, 256, 1<<31 - 1, 1 << 31} {
		m.Opset = n
		l = append(l, m)
	}
	// What is wrong beyond the bytes is of no matter here: names that are alike, or missing, or none.
	l = append(l, model.Model{
		Opset:   13,
		Inputs:  []model.Info{{Name: "x", Kind: kind.Int, Dims: ints(-1, math.MaxInt64)}, {Name: "x", Kind: kind.Flag}},
		Outputs: []model.Info{{Name: "x", Kind: kind.Gauss}, {Name: strings.Repeat("~", 64), Kind: kind.Byte, Dims: make([]int64, 20)}},
		Inits:   []tensor.Tensor{tensor.OfInts("x", nil, 1), tensor.OfFlags("x", ints(2), true, false), tensor.OfNums("x", nil, complex(1, -2))},
		Nodes:   []model.Node{{}, {Op: "\x00\xff", In: []string{"", "\x80"}, Out: " "}, {Op: "x", Attrs: []model.Attr{model.Row("!"), model.Number("~", math.MinInt64)}}},
	})
	return append(l, most(), model.Model{Inits: []tensor.Tensor{tensor.OfInts("a", ints(65536), make([]int64, 65536)...)}})
}

// most is a model of as many of each as there may be.
func most() model.Model {
	m := model.Model{Opset: 13}
	for i := range api.MaxNodes {
		name := strconv.Itoa(i)
		m.Nodes = append(m.Nodes, model.Node{Op: "Neg", In: []string{"x" + name}, Out: "y" + name})
		m.Inits = append(m.Inits, tensor.OfInts("t"+name, nil, int64(i)))
	}
	for i := range api.MaxInputs {
		name := strconv.Itoa(i)
		m.Inputs = append(m.Inputs, model.Info{Name: "i" + name, Kind: kind.Int, Dims: ints(int64(i))})
		m.Outputs = append(m.Outputs, model.Info{Name: "o" + name, Kind: kind.Flag, Dims: ints(int64(i), 0)})
	}
	return m
}

// P12.2: what is put is read as it was, whatever the store is.
func TestWhatIsPutIsRead(t *testing.T) {
	for _, m := range rightModels() {
		b := put(t, m)
		wantRead(t, b, store.Store{}, m)
		wantRead(t, b, files(t), m)
	}
}

// P12.2: one bound left at a time.
func TestModelsBeyondTheBounds(t *testing.T) {
	again := func(want api.Errno, change func(m *model.Model)) {
		t.Helper()
		m := most()
		change(&m)
		wantReadError(t, put(t, m), store.Store{}, want)
	}
	again(api.ErrSize, func(m *model.Model) { m.Nodes = append(m.Nodes, m.Nodes[0]) })
	again(api.ErrSize, func(m *model.Model) { m.Inits = append(m.Inits, m.Inits[0]) })
	again(api.ErrSize, func(m *model.Model) { m.Inputs = append(m.Inputs, m.Inputs[0]) })
	again(api.ErrSize, func(m *model.Model) { m.Outputs = append(m.Outputs, m.Outputs[0]) })
	for _, n := range []int64{-1, 1<<31 + 1, 1 << 32, 1<<32 + 13, math.MaxInt64, math.MinInt64, math.MinInt64 + 13} {
		again(api.ErrOpset, func(m *model.Model) { m.Opset = n })
	}
	again(api.ErrArity, func(m *model.Model) { m.Nodes[1023].In = make([]string, 65) })
	again(api.ErrTwice, func(m *model.Model) { m.Nodes[5].Attrs = []model.Attr{model.Row("a"), model.Number("a", 1)} })
	again(api.ErrName, func(m *model.Model) { m.Inputs[63].Name = "" })
	again(api.ErrKind, func(m *model.Model) { m.Outputs[63].Kind = 3 })
}

// P12.2: a writing of 2^20 bytes is read, one of one byte more isn't.
func TestLongestWriting(t *testing.T) {
	of := func(n int) model.Model {
		return model.Model{Opset: 13, Nodes: []model.Node{{Op: strings.Repeat("o", n)}}}
	}
	room := api.MaxBytes - len(put(t, of(500000))) + 500000
	m := of(room)
	b := put(t, m)
	if len(b) != api.MaxBytes {
		t.Fatalf("the longest writing has %d bytes", len(b))
	}
	wantRead(t, b, store.Store{}, m)
	wantReadError(t, put(t, of(room+1)), store.Store{}, api.ErrLong)
	// Other fields count for nothing, but their bytes do.
	short := put(t, full())
	fill := short + wire.Text(100, strings.Repeat("x", api.MaxBytes-len(short)-5))
	wantRead(t, fill, store.Store{}, full())
	wantReadError(t, fill+wire.Text(9, ""), store.Store{}, api.ErrLong)
	wantReadError(t, strings.Repeat("x", api.MaxBytes+1), store.Store{}, api.ErrLong)
	// Tensors of so many elements are put, though together they are too much to read.
	big := tensor.OfInts("a", ints(65536), make([]int64, 65536)...)
	wantReadError(t, put(t, model.Model{Opset: 13, Inits: []tensor.Tensor{big, big, big}}), store.Store{}, api.ErrLong)
}

// P12.1: the fields are found in any order; of lists it is theirs.
func TestFieldsInAnyOrder(t *testing.T) {
	n, i, in, out := parts()
	l := []string{n, i, in, out}
	for range len(l) {
		l = append(l[1:], l[0])
		wantRead(t, whole(strings.Join(l, "")), store.Store{}, full())
		wantRead(t, opset13+wire.Text(7, strings.Join(l, "")), store.Store{}, full())
	}
	slices.Reverse(l)
	wantRead(t, whole(strings.Join(l, "")), store.Store{}, full())
	m := full()
	n2, nb := node("m")
	i2, ib := init1("s")
	in2, inb := info(11, "j")
	out2, outb := info(12, "p")
	m.Nodes, m.Inits, m.Inputs, m.Outputs = append(m.Nodes, n2), append(m.Inits, i2), append(m.Inputs, in2), append(m.Outputs, out2)
	for _, g := range []string{n + nb + i + ib + in + inb + out + outb, n + i + in + out + outb + inb + ib + nb, out + outb + n + in + i + ib + inb + nb} {
		wantRead(t, whole(g), store.Store{}, m)
	}
	// The same part twice is there twice.
	m = full()
	m.Nodes, m.Inits, m.Inputs, m.Outputs = append(m.Nodes, m.Nodes[0]), append(m.Inits, m.Inits[0]), append(m.Inputs, m.Inputs[0]), append(m.Outputs, m.Outputs[0])
	wantRead(t, whole(graph()+graph()), store.Store{}, m)
}

// P12.1: all texts of field 7 are one message, wherever they are cut.
func TestGraphsAreOne(t *testing.T) {
	g := graph()
	var each string
	for i := range len(g) {
		each += wire.Text(7, g[i:i+1])
		wantRead(t, wire.Text(7, g[:i])+wire.Text(7, g[i:])+opset13, store.Store{}, full())
		wantRead(t, wire.Text(7, g[:i])+opset13+field(6, 2)+wire.Text(7, "")+wire.Text(7, g[i:]), store.Store{}, full())
		// What is cut off is told of the whole, not of a text.
		if _, e := wire.Fields(g[:i]); e != api.OK {
			wantReadError(t, wire.Text(7, g[:i])+opset13, store.Store{}, e)
		}
	}
	wantRead(t, each+opset13, store.Store{}, full())
	n, i, in, out := parts()
	wantRead(t, wire.Text(7, n)+wire.Text(7, i)+wire.Text(7, in)+wire.Text(7, out)+opset13, store.Store{}, full())
	m := full()
	m.Nodes, m.Inits, m.Inputs, m.Outputs = append(m.Nodes, m.Nodes[0]), append(m.Inits, m.Inits[0]), append(m.Inputs, m.Inputs[0]), append(m.Outputs, m.Outputs[0])
	wantRead(t, wire.Text(7, g)+wire.Text(7, g)+opset13, store.Store{}, m)
	// In their order.
	other, b := node("z")
	m = full()
	m.Nodes = []model.Node{other, m.Nodes[0]}
	wantRead(t, wire.Text(7, b)+wire.Text(7, g)+opset13, store.Store{}, m)
}

// P12.1: what isn't there is empty; of texts of field 7 there must be one, be it empty.
func TestWhatIsNotThere(t *testing.T) {
	none := model.Model{Opset: 13}
	for _, b := range []string{whole(""), whole("") + wire.Text(7, ""), opset13 + wire.Text(7, ""), whole(field(2, 2) + field(3, 0))} {
		wantRead(t, b, store.Store{}, none)
	}
	for _, b := range []string{opset13, opset13 + field(1, 2) + field(9, 0), opset13 + graph()} {
		wantReadError(t, b, store.Store{}, api.ErrMissing)
	}
	wantReadError(t, "", store.Store{}, api.ErrOpset)
	wantReadError(t, wire.Text(7, ""), store.Store{}, api.ErrOpset)
	wantReadError(t, wire.Text(7, graph()), store.Store{}, api.ErrOpset)
}

// P12.1: other fields count for nothing, whatever they are, in each message.
func TestOtherFieldsCountForNothing(t *testing.T) {
	g, version := graph(), wire.Number(2, 13)
	for num := 1; num < 40; num++ {
		for _, typ := range []int{0, 1, 2, 5} {
			x := field(num, typ)
			if num != 7 && num != 8 {
				wantRead(t, x+whole(g)+x, store.Store{}, full())
			}
			if num > 2 {
				wantRead(t, wire.Text(7, g)+wire.Text(8, x+version+x), store.Store{}, full())
			}
			if !slices.Contains([]int{1, 5, 11, 12}, num) {
				wantRead(t, whole(x+g+x), store.Store{}, full())
			}
		}
	}
	for _, num := range []int{128 + 1, 128 + 7, 256 + 8, 256 + 12, 1<<16 + 5, 1<<29 - 1} {
		x := field(num, 2) + field(num, 0)
		wantRead(t, whole(g+x)+x, store.Store{}, full())
		wantRead(t, wire.Text(7, g)+wire.Text(8, version+x), store.Store{}, full())
	}
}

// P12.1: of a domain and a version the last field counts, whatever those ahead are.
func TestLastFieldsOfOpsetsCount(t *testing.T) {
	g := wire.Text(7, graph())
	for _, num := range []int{1, 2} {
		for _, typ := range []int{0, 1, 2, 5} {
			wantRead(t, g+wire.Text(8, field(num, typ)+wire.Number(2, 13)+wire.Text(1, "")), store.Store{}, full())
			wantRead(t, g+wire.Text(8, field(num, typ)+field(num, typ)+wire.Text(1, "")+wire.Number(2, 13)), store.Store{}, full())
		}
	}
	m := full()
	m.Opset = 11
	wantRead(t, g+wire.Text(8, wire.Number(2, 13)+wire.Number(2, 11)), store.Store{}, m)
	wantRead(t, g+wire.Text(8, wire.Number(2, 1<<40)+wire.Number(2, 11)), store.Store{}, m)
	m.Opset = 0
	wantRead(t, g+wire.Text(8, wire.Number(2, 13)+wire.Number(2, 0)), store.Store{}, m)
	wantReadError(t, g+wire.Text(8, wire.Number(2, 13)+wire.Number(2, 1<<40)), store.Store{}, api.ErrOpset)
	wantReadError(t, g+wire.Text(8, wire.Number(2, 13)+wire.Text(1, "")+wire.Text(1, "a")), store.Store{}, api.ErrOpset)
}

// P12.1: the only opset message, of no domain, of a version up to 2^31, which is 0 where it isn't there.
func TestOpsets(t *testing.T) {
	g := wire.Text(7, graph())
	for _, n := range []uint64{0, 1, 8, 9, 13, 14, 127, 128, 255, 256, 1<<31 - 1, 1 << 31} {
		m := full()
		m.Opset = int64(n)
		wantRead(t, g+opsetOf("", n), store.Store{}, m)
		wantRead(t, g+wire.Text(8, wire.Number(2, n)), store.Store{}, m)
		wantReadError(t, g+opsetOf("a", n), store.Store{}, api.ErrOpset)
		wantReadError(t, g+opsetOf("", n)+opsetOf("", n), store.Store{}, api.ErrOpset)
	}
	for _, n := range []uint64{1<<31 + 1, 1<<32 - 1, 1 << 32, 1<<32 + 13, 1<<63 - 1, 1 << 63, 1<<63 + 13, math.MaxUint64} {
		wantReadError(t, g+opsetOf("", n), store.Store{}, api.ErrOpset)
	}
	m := full()
	m.Opset = 0
	wantRead(t, g+wire.Text(8, ""), store.Store{}, m)
	wantRead(t, g+wire.Text(8, wire.Text(1, "")), store.Store{}, m)
	for _, domain := range []string{"ai.onnx", " ", "\x00", "ai.onnx.ml", strings.Repeat("d", 1000)} {
		wantReadError(t, g+opsetOf(domain, 13), store.Store{}, api.ErrOpset)
		wantReadError(t, g+opsetOf(domain, 13)+opset13, store.Store{}, api.ErrOpset)
		wantReadError(t, g+opset13+opsetOf(domain, 1), store.Store{}, api.ErrOpset)
	}
	wantReadError(t, g+opset13+wire.Text(8, ""), store.Store{}, api.ErrOpset)
	wantReadError(t, g+strings.Repeat(opset13, 257), store.Store{}, api.ErrOpset)
	// Their texts are no one message, as those of the graph are.
	wantReadError(t, g+wire.Text(8, "\x10")+wire.Text(8, "\x0d"), store.Store{}, api.ErrShort)
	// Varints need not be the least.
	wantRead(t, g+wire.Text(8, "\x90\x00\x8d\x80\x00"), store.Store{}, full())
}

// P12.1: messages that are none, at each level.
func TestErrorsOfMessages(t *testing.T) {
	g := graph()
	for x, want := range map[string]api.Errno{
		broken:              api.ErrShort,
		"\x18":              api.ErrShort,
		"\x4a\x05\x00":      api.ErrShort,
		"\x4d\x00\x00\x00":  api.ErrShort,
		tooLong:             api.ErrLong,
		"\x48" + tooLong:    api.ErrLong,
		"\x4b":              api.ErrWire,
		"\x4e":              api.ErrWire,
		"\x00\x00":          api.ErrWire,
		"\x03" + "\x0a\x00": api.ErrWire,
	} {
		for _, b := range []string{
			x, whole(g) + x, wire.Text(7, g) + wire.Text(8, x), wire.Text(7, g) + wire.Text(8, wire.Number(2, 13)+x),
			whole(x), whole(g + x), whole(g) + wire.Text(7, x),
			whole(wire.Text(1, x)), whole(g + wire.Text(1, x)), whole(wire.Text(5, x)), whole(g + wire.Text(5, x)),
			whole(wire.Text(11, x)), whole(g + wire.Text(11, x)), whole(wire.Text(12, x)), whole(g + wire.Text(12, x)),
		} {
			wantReadError(t, b, store.Store{}, want)
		}
	}
	b := whole(g)
	for n := range len(b) {
		_, want := wire.Fields(b[:n])
		if want == api.OK {
			// Cut between two fields: the opset isn't there.
			want = api.ErrOpset
		}
		wantReadError(t, b[:n], store.Store{}, want)
	}
}

// P12.1: all fields of a Num that is told are of Type 2, but for those of an opset, of which the last one counts.
func TestErrorsOfTypes(t *testing.T) {
	g := graph()
	for _, typ := range []int{0, 1, 5} {
		for _, num := range []int{7, 8} {
			wantReadError(t, whole(g)+field(num, typ), store.Store{}, api.ErrWire)
			wantReadError(t, field(num, typ)+whole(g), store.Store{}, api.ErrWire)
			wantReadError(t, field(num, typ), store.Store{}, api.ErrWire)
		}
		for _, num := range []int{1, 5, 11, 12} {
			wantReadError(t, whole(g+field(num, typ)), store.Store{}, api.ErrWire)
			wantReadError(t, whole(field(num, typ)+g), store.Store{}, api.ErrWire)
			wantReadError(t, whole(field(num, typ)), store.Store{}, api.ErrWire)
		}
		wantReadError(t, wire.Text(7, g)+wire.Text(8, wire.Number(2, 13)+field(1, typ)), store.Store{}, api.ErrWire)
		wantReadError(t, wire.Text(7, g)+wire.Text(8, field(1, typ)), store.Store{}, api.ErrWire)
	}
	for _, typ := range []int{1, 2, 5} {
		wantReadError(t, wire.Text(7, g)+wire.Text(8, wire.Number(2, 13)+field(2, typ)), store.Store{}, api.ErrWire)
		wantReadError(t, wire.Text(7, g)+wire.Text(8, field(2, typ)), store.Store{}, api.ErrWire)
	}
}

// P12.1: up to 1024 nodes and tensors, 64 Inputs and Outputs; more are told ahead of what each is.
func TestLimits(t *testing.T) {
	n, i, in, out := parts()
	for b, limit := range map[string]int{n: 1024, i: 1024, in: 64, out: 64} {
		for _, times := range []int{limit - 1, limit} {
			got, e := Read(whole(strings.Repeat(b, times)), store.Store{})
			if met := len(got.Nodes) + len(got.Inits) + len(got.Inputs) + len(got.Outputs); e != api.OK || met != times {
				t.Errorf("of %d times %q there are %d, %v", times, b, met, e)
			}
		}
		for _, times := range []int{limit + 1, limit + 2, 2 * limit, 4096} {
			wantReadError(t, whole(strings.Repeat(b, times)), store.Store{}, api.ErrSize)
		}
		// In two texts, too.
		wantReadError(t, wire.Text(7, strings.Repeat(b, limit))+wire.Text(7, b)+opset13, store.Store{}, api.ErrSize)
	}
	for num, limit := range map[int]int{1: 1024, 5: 1024, 11: 64, 12: 64} {
		wantReadError(t, whole(strings.Repeat(wire.Text(num, broken), limit)), store.Store{}, api.ErrShort)
		wantReadError(t, whole(strings.Repeat(wire.Text(num, broken), limit+1)), store.Store{}, api.ErrSize)
		wantReadError(t, whole(strings.Repeat(wire.Text(num, ""), limit+1)+wire.Text(1, broken)), store.Store{}, api.ErrSize)
	}
	most := strings.Repeat(n, 1024) + strings.Repeat(i, 1024) + strings.Repeat(in, 64) + strings.Repeat(out, 64)
	if m, e := Read(whole(most), store.Store{}); e != api.OK || len(m.Nodes) != 1024 || len(m.Inits) != 1024 || len(m.Inputs) != 64 || len(m.Outputs) != 64 {
		t.Errorf("of the most there are %d, %d, %d, %d, %v", len(m.Nodes), len(m.Inits), len(m.Inputs), len(m.Outputs), e)
	}
	for _, b := range []string{n, i, in, out} {
		wantReadError(t, whole(most+b), store.Store{}, api.ErrSize)
	}
}

// fault is something wrong, and what is told of it.
type fault struct {
	b string
	e api.Errno
}

// wrongParts are wrong parts of a graph, Num by Num.
func wrongParts() map[int][]fault {
	infos := []fault{
		{tooLong, api.ErrLong},
		{wire.Number(2, 1), api.ErrWire},
		{wire.Text(1, "a") + wire.Text(2, wire.Text(1, wire.Text(2, wire.Text(1, "")))), api.ErrShape},
		{pbnode.PutInfo(model.Info{Kind: kind.Int}), api.ErrName},
		{pbnode.PutInfo(model.Info{Name: "a", Kind: 3}), api.ErrKind},
	}
	return map[int][]fault{
		1: {
			{broken, api.ErrShort},
			{field(4, 0), api.ErrWire},
			{"", api.ErrArity},
			{wire.Text(2, "y") + wire.Text(7, "z"), api.ErrOp},
			{wire.Text(2, "y") + wire.Text(5, wire.Text(1, "a")), api.ErrAttr},
			{wire.Text(2, "y") + strings.Repeat(wire.Text(5, wire.Text(1, "a")+wire.Number(20, 2)), 2), api.ErrTwice},
		},
		5: {
			{broken, api.ErrShort},
			{wire.Text(2, ""), api.ErrWire},
			{wire.Number(14, 2), api.ErrForm},
			{"", api.ErrName},
			{wire.Text(8, "a"), api.ErrKind},
			{pack.Put(1, ints(-1)) + wire.Number(2, 7) + wire.Text(8, "a"), api.ErrShape},
			{pack.Put(1, ints(65537)) + wire.Number(2, 7) + wire.Text(8, "a"), api.ErrSize},
			{wire.Number(2, 9) + wire.Text(8, "a") + wire.Text(9, "\x02"), api.ErrValue},
			{wire.Number(2, 9) + wire.Text(8, "a") + wire.Number(14, 1), api.ErrMissing},
		},
		11: infos,
		12: infos,
	}
}

// P12.1: node by node, tensor by tensor, Input by Input, Output by Output, however they stand.
func TestErrorsOfParts(t *testing.T) {
	g, wrong := graph(), wrongParts()
	order := []int{1, 5, 11, 12}
	for i, num := range order {
		for _, first := range wrong[num] {
			b := wire.Text(num, first.b)
			for _, where := range []string{b, b + g, g + b, g + b + g} {
				wantReadError(t, whole(where), store.Store{}, first.e)
			}
			for _, later := range wrong[num] {
				wantReadError(t, whole(g+b+wire.Text(num, later.b)), store.Store{}, first.e)
				wantReadError(t, whole(b+g+wire.Text(num, later.b)), store.Store{}, first.e)
			}
			for _, behind := range order[i+1:] {
				for _, later := range wrong[behind] {
					wantReadError(t, whole(g+b+wire.Text(behind, later.b)), store.Store{}, first.e)
					wantReadError(t, whole(wire.Text(behind, later.b)+g+b), store.Store{}, first.e)
				}
			}
		}
	}
}

// P12.1: tensors may lie in a store's files.
func TestTensorsInFiles(t *testing.T) {
	s := files(t)
	want := model.Model{Opset: 13, Inits: []tensor.Tensor{tensor.OfInts("a", ints(2), 5, -6), tensor.OfInts("t", ints(2), 5, -6), tensor.OfInts("b", ints(1), 7)}}
	_, here := init1("t")
	b := whole(filed("a", 2, "w/a.bin", "0") + here + filed("b", 1, "w/a.bin", "16"))
	wantRead(t, b, s, want)
	wantReadError(t, b, store.Store{}, api.ErrMissing)
	for x, want := range map[string]api.Errno{
		filed("a", 1, "../a", "0"):     api.ErrPath,
		filed("a", 1, "none", "0"):     api.ErrMissing,
		filed("a", 1, "w/a.bin", "17"): api.ErrShort,
		filed("a", 1, "w/a.bin", "-1"): api.ErrValue,
	} {
		wantReadError(t, whole(x), s, want)
		wantReadError(t, whole(here+x+wire.Text(5, "")), s, want)
		wantReadError(t, whole(x+wire.Text(11, "")+wire.Text(12, "")), s, want)
		wantReadError(t, whole(x+wire.Text(1, "")), s, api.ErrArity)
	}
	// What was in a file is put with its elements in the message.
	wantRead(t, put(t, want), store.Store{}, want)
}

// P12.1: of several faults the one is told that the chapter names first.
func TestFirstFaults(t *testing.T) {
	const (
		ahead = iota
		opsets
		graphs
	)
	l := []struct {
		at int
		b  string
		e  api.Errno
	}{
		{ahead, tooLong, api.ErrLong},
		{ahead, field(7, 0), api.ErrWire},
		{ahead, field(8, 5), api.ErrWire},
		{opsets, wire.Text(8, broken), api.ErrShort},
		{opsets, wire.Text(8, field(2, 1)), api.ErrWire},
		{opsets, wire.Text(8, field(1, 0)), api.ErrWire},
		{opsets, opsetOf("a", 1), api.ErrOpset},
		{opsets, opsetOf("", 1<<40), api.ErrOpset},
		{opsets, wire.Text(8, ""), api.ErrOpset},
		{graphs, "\x4b", api.ErrWire},
		{graphs, field(1, 0), api.ErrWire},
		{graphs, field(12, 5), api.ErrWire},
		{graphs, strings.Repeat(wire.Text(11, tooLong), 65), api.ErrSize},
		{graphs, strings.Repeat(wire.Text(5, tooLong), 1025), api.ErrSize},
		{graphs, wire.Text(1, ""), api.ErrArity},
		{graphs, wire.Text(5, wire.Text(8, "a")), api.ErrKind},
		{graphs, wire.Text(11, ""), api.ErrName},
		{graphs, wire.Text(12, tooLong), api.ErrLong},
	}
	for i, first := range l {
		var behind [3]string
		for _, later := range l[i:] {
			var p [3]string
			p[first.at] = first.b
			if later != first {
				p[later.at] += later.b
			}
			wantReadError(t, wire.Text(7, graph()+p[graphs])+p[opsets]+opset13+p[ahead], store.Store{}, first.e)
			behind[later.at] += later.b
		}
		wantReadError(t, wire.Text(7, graph()+behind[graphs])+opset13+behind[opsets]+behind[ahead], store.Store{}, first.e)
		// Without a graph that is told, but behind what is wrong with the opsets.
		if first.at == opsets {
			wantReadError(t, opset13+first.b, store.Store{}, first.e)
		}
	}
	// Opset by opset, and behind all of them how many there are, and what is in them.
	g := wire.Text(7, broken)
	wantReadError(t, g+wire.Text(8, broken)+wire.Text(8, field(2, 1)), store.Store{}, api.ErrShort)
	wantReadError(t, g+wire.Text(8, field(2, 1))+wire.Text(8, broken), store.Store{}, api.ErrWire)
	wantReadError(t, g+opsetOf("a", 1<<40)+opset13+wire.Text(8, tooLong), store.Store{}, api.ErrLong)
	wantReadError(t, g+opsetOf("a", 1<<40)+opset13+wire.Text(8, field(1, 1)), store.Store{}, api.ErrWire)
	wantReadError(t, opsetOf("a", 13), store.Store{}, api.ErrOpset)
	wantReadError(t, g, store.Store{}, api.ErrOpset)
}

// R3: what is answered is new memory, and what is handed in stays as it is.
func TestNothingIsShared(t *testing.T) {
	b := put(t, full())
	for range 3 {
		wantRead(t, b, store.Store{}, full())
		m, _ := Read(b, store.Store{})
		spoil(m)
	}
	wantRead(t, b, store.Store{}, full())
	m := full()
	m.Nodes, m.Inits = append(m.Nodes, m.Nodes[0]), append(m.Inits, m.Inits[0])
	m.Inputs, m.Outputs = append(m.Inputs, m.Inputs[0]), append(m.Outputs, m.Outputs[0])
	as := m.Clone()
	part := m
	part.Nodes, part.Inits, part.Inputs, part.Outputs = m.Nodes[:1], m.Inits[:1], m.Inputs[:1], m.Outputs[:1]
	for range 3 {
		if got := put(t, part); got != b {
			t.Errorf("the model is put as %s; want %s", brief(got), brief(b))
		}
	}
	if !m.Same(as) {
		t.Errorf("what was handed in is %+v now", m)
	}
}

// spoil changes all that a model has, and the room behind the ends.
func spoil(m model.Model) {
	for _, n := range m.Nodes {
		for _, a := range n.Attrs {
			fill(a.Ints, 99)
		}
		fill(n.In, "z")
		fill(n.Attrs, model.Attr{})
	}
	for _, t := range m.Inits {
		fill(t.Dims, 99)
	}
	for _, i := range slices.Concat(m.Inputs, m.Outputs) {
		fill(i.Dims, 99)
	}
	fill(m.Nodes, model.Node{})
	fill(m.Inits, tensor.Tensor{})
	fill(m.Inputs, model.Info{})
	fill(m.Outputs, model.Info{})
}

// fill fills a list with a value, and the room behind its end.
func fill[E any](l []E, with E) {
	l = l[:cap(l)]
	for i := range l {
		l[i] = with
	}
}

// slowRead is what the chapter says of reading, one error behind the other.
func slowRead(b string, s store.Store) (model.Model, api.Errno) {
	none := model.Model{}
	l, e := wire.Fields(b)
	if e != api.OK {
		return none, e
	}
	var opsets, graphs []string
	for _, f := range l {
		switch {
		case f.Num != 7 && f.Num != 8:
		case f.Type != 2:
			return none, api.ErrWire
		case f.Num == 7:
			graphs = append(graphs, f.Data)
		default:
			opsets = append(opsets, f.Data)
		}
	}
	version, e := slowOpset(opsets)
	if e != api.OK {
		return none, e
	}
	if graphs == nil {
		return none, api.ErrMissing
	}
	m, e := slowGraph(strings.Join(graphs, ""), s)
	if e != api.OK {
		return none, e
	}
	m.Opset = version
	return m, api.OK
}

// slowOpset is the version in opset messages.
func slowOpset(texts []string) (version int64, e api.Errno) {
	wrong := false
	for _, b := range texts {
		l, e := wire.Fields(b)
		if e != api.OK {
			return 0, e
		}
		domain, n := wire.Field{Type: 2}, wire.Field{Type: 0}
		for _, f := range l {
			if f.Num == 1 {
				domain = f
			}
			if f.Num == 2 {
				n = f
			}
		}
		if domain.Type != 2 || n.Type != 0 {
			return 0, api.ErrWire
		}
		version = int64(n.N)
		wrong = wrong || domain.Data != "" || n.N > 2147483648
	}
	if wrong || len(texts) != 1 {
		return 0, api.ErrOpset
	}
	return version, api.OK
}

// slowGraph is the model in a graph's message.
func slowGraph(b string, s store.Store) (m model.Model, e api.Errno) {
	l, e := wire.Fields(b)
	if e != api.OK {
		return m, e
	}
	by := map[int][]string{}
	for _, f := range l {
		if slices.Contains([]int{1, 5, 11, 12}, f.Num) {
			if f.Type != 2 {
				return m, api.ErrWire
			}
			by[f.Num] = append(by[f.Num], f.Data)
		}
	}
	if len(by[1]) > 1024 || len(by[5]) > 1024 || len(by[11]) > 64 || len(by[12]) > 64 {
		return m, api.ErrSize
	}
	for _, b := range by[1] {
		n, e := pbnode.ReadNode(b)
		if e != api.OK {
			return m, e
		}
		m.Nodes = append(m.Nodes, n)
	}
	for _, b := range by[5] {
		t, e := pbtensor.Read(b, s)
		if e != api.OK {
			return m, e
		}
		m.Inits = append(m.Inits, t)
	}
	for i, b := range slices.Concat(by[11], by[12]) {
		v, e := pbnode.ReadInfo(b)
		if e != api.OK {
			return m, e
		}
		if i < len(by[11]) {
			m.Inputs = append(m.Inputs, v)
		} else {
			m.Outputs = append(m.Outputs, v)
		}
	}
	return m, api.OK
}

// wantAsSlow wants a message to be read as the slower reading says, and what is read to be put and read again.
func wantAsSlow(t *testing.T, b string, s store.Store) api.Errno {
	t.Helper()
	got, e := Read(b, s)
	want, wantE := slowRead(b, s)
	if e != wantE || !strict(got, want) {
		t.Fatalf("Read(%s) is %+v, %v; want %+v, %v", brief(b), few(got), e, few(want), wantE)
	}
	if e != api.OK {
		return e
	}
	// Elements of a file may come to be too many to be read from a message.
	again := put(t, got)
	if back, e := Read(again, store.Store{}); len(again) <= api.MaxBytes && (e != api.OK || !strict(back, got)) {
		t.Fatalf("what is put of %+v is read as %+v, %v", few(got), few(back), e)
	}
	return api.OK
}

// mix is a message of some of many parts, each once at most times, in any order, and now and then cut short.
func mix(next func(n int) int, most int, parts [][]string) string {
	var l []string
	for _, of := range parts {
		for range 1 + next(most) {
			l = slices.Insert(l, next(len(l)+1), of[next(len(of))])
		}
	}
	b := strings.Join(l, "")
	if next(100) == 0 {
		b = b[:next(len(b)+1)]
	}
	return b
}

// wrongOf is one of the wrong parts of a Num, as a field.
func wrongOf(next func(n int) int, num int) string {
	l := wrongParts()[num]
	return wire.Text(num, l[next(len(l))].b)
}

// someGraphs are parts of graphs' messages, right ones and wrong ones, of which many fit together.
func someGraphs(next func(n int) int) [][]string {
	n, i, in, out := parts()
	_, n2 := node(strconv.Itoa(next(100)))
	_, in2 := info(11, strconv.Itoa(next(100)))
	_, out2 := info(12, strconv.Itoa(next(100)))
	return [][]string{
		slices.Concat(slices.Repeat([]string{n, n2, n + n2, ""}, 5), []string{wrongOf(next, 1), field(1, 0)}),
		slices.Concat(slices.Repeat([]string{i, filed("f", 1, "w/a.bin", "8"), i, ""}, 5), []string{wrongOf(next, 5), filed("f", 1, "none", "0"), field(5, 1)}),
		slices.Concat(slices.Repeat([]string{in, in2, in + in2, ""}, 5), []string{wrongOf(next, 11), field(11, 5), strings.Repeat(in, 64)}),
		slices.Concat(slices.Repeat([]string{out, out2, out + out2, ""}, 5), []string{wrongOf(next, 12), field(12, 0), strings.Repeat(out, 64)}),
		{"", "", "", "", field(2, 0), field(7, 2), field(13, 5)},
	}
}

// mixModel is a model's message of some of many parts.
func mixModel(next func(n int) int) string {
	g := mix(next, 1+next(5)/4, someGraphs(next))
	cut := next(len(g) + 1)
	version := wire.Number(2, uint64(next(20)))
	opset := wire.Text(8, mix(next, 1+next(20)/19, [][]string{
		{version, version, version, version, version, version, version, version, wire.Number(2, 1<<31), wire.Number(2, 1<<31+1), "", field(2, 1)},
		{"", "", "", "", "", "", "", "", wire.Text(1, ""), wire.Text(1, ""), wire.Text(1, "a"), field(1, 0)},
	}))
	whole, two := wire.Text(7, g), wire.Text(7, g[:cut])+wire.Text(7, g[cut:])
	return mix(next, 1, [][]string{
		slices.Concat(slices.Repeat([]string{whole, two}, 10), []string{"", whole + whole, field(7, 1)}),
		slices.Concat(slices.Repeat([]string{opset}, 20), []string{"", opset + opset13, wire.Text(8, broken) + opset, field(8, 0)}),
		{"", "", "", field(1, 0), field(9, 2), field(14, 5)},
	})
}

// P12.1, P12.2: messages of all parts, in all orders, are read as the slower reading says.
func TestReadOfManyMessages(t *testing.T) {
	s, next, met := files(t), rule(), map[api.Errno]int{}
	for range 60000 {
		met[wantAsSlow(t, mixModel(next), s)]++
	}
	for _, e := range []api.Errno{api.OK, api.ErrShort, api.ErrLong, api.ErrWire, api.ErrKind, api.ErrShape, api.ErrSize, api.ErrName, api.ErrOp, api.ErrArity, api.ErrAttr, api.ErrTwice, api.ErrOpset, api.ErrValue, api.ErrMissing, api.ErrForm} {
		if met[e] < 100 {
			t.Errorf("%v is met %d times", e, met[e])
		}
	}
}

// FuzzRead: any bytes are read as the slower reading says, and what is read is put and read again.
func FuzzRead(f *testing.F) {
	next := rule()
	for range 200 {
		f.Add([]byte(mixModel(next)))
	}
	f.Add([]byte(graph()))
	f.Fuzz(func(t *testing.T, b []byte) {
		s := files(t)
		wantAsSlow(t, string(b), s)
		wantAsSlow(t, string(b), store.Store{})
		// Graphs and opsets alone are reached by more bytes, so.
		wantAsSlow(t, whole(string(b)), s)
		wantAsSlow(t, wire.Text(7, graph())+wire.Text(8, string(b)), s)
	})
}
