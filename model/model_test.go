package model

import (
	"math"
	"reflect"
	"slices"
	"strconv"
	"strings"
	"testing"

	"agate/kind"
	"agate/tensor"
)

// edges are numbers at the ends of their type, and about 0.
var edges = []int64{math.MinInt64, math.MinInt64 + 1, math.MinInt32, -2, -1, 0, 1, 2, 7, 65536, math.MaxInt32, math.MaxInt64 - 1, math.MaxInt64}

// names are texts of all sorts; of a model's names none is asked to be one.
var names = []string{"", "a", "b", "A", "aa", "a ", " a", "a\x00", "\x00", "\xff", "ä", "axis", "keep", strings.Repeat("n", 64), strings.Repeat("n", 65), strings.Repeat("n", 1<<16)}

// sample is a model in which each list has elements, of all sorts, made anew each time.
func sample() Model {
	return Model{
		Opset:   13,
		Inputs:  []Info{{"x", kind.Int, []int64{2, 3}}, {"y", kind.Gauss, nil}, {"x", kind.Int, []int64{2, 3}}},
		Outputs: []Info{{"z", kind.Flag, []int64{0}}, {"z", kind.Kind(99), []int64{-1, math.MaxInt64}}},
		Inits: []tensor.Tensor{
			tensor.OfInts("w", []int64{2}, 1, -1), tensor.OfFlags("f", nil, true), tensor.OfInts("w", []int64{1}, 7),
			{Name: "", Kind: kind.Kind(-1), Dims: []int64{-5}, Data: "odd"},
		},
		Nodes: []Node{
			{"Concat", []string{"x", "y"}, "c", []Attr{Number("axis", 1), Row("axis", 2, 3), Row("perm", 1, 0), Number("perm", 4)}},
			{"", nil, "", nil},
			{"Neg", []string{"c"}, "z", []Attr{{"odd", true, 5, []int64{8, 9}}, {"row", false, 6, []int64{1}}, {Name: "none"}}},
		},
	}
}

// change is one thing done to a model that makes it another.
type change struct {
	what string
	do   func(m *Model)
}

// changes are such that each alone makes another model of the sample.
func changes() []change {
	return []change{
		{"opset", func(m *Model) { m.Opset = 12 }},
		{"opset's high bits", func(m *Model) { m.Opset += 1 << 32 }},
		{"input's name", func(m *Model) { m.Inputs[1].Name = "Y" }},
		{"input's kind", func(m *Model) { m.Inputs[1].Kind = kind.Int }},
		{"input's dim", func(m *Model) { m.Inputs[0].Dims[1] = 4 }},
		{"input's dims in another order", func(m *Model) { slices.Reverse(m.Inputs[0].Dims) }},
		{"input's dims, one more", func(m *Model) { m.Inputs[1].Dims = []int64{1} }},
		{"input's dims, one less", func(m *Model) { m.Inputs[0].Dims = m.Inputs[0].Dims[:1] }},
		{"inputs in another order", func(m *Model) { m.Inputs[0], m.Inputs[1] = m.Inputs[1], m.Inputs[0] }},
		{"one input less", func(m *Model) { m.Inputs = m.Inputs[:2] }},
		{"one input more", func(m *Model) { m.Inputs = append(m.Inputs, Info{}) }},
		{"no inputs", func(m *Model) { m.Inputs = nil }},
		{"output's name", func(m *Model) { m.Outputs[0].Name = "" }},
		{"output's kind", func(m *Model) { m.Outputs[1].Kind = kind.Kind(98) }},
		{"output's dim", func(m *Model) { m.Outputs[1].Dims[0] = -2 }},
		{"output's only dim is gone", func(m *Model) { m.Outputs[0].Dims = nil }},
		{"outputs in another order", func(m *Model) { slices.Reverse(m.Outputs) }},
		{"one output less", func(m *Model) { m.Outputs = m.Outputs[1:] }},
		{"no outputs", func(m *Model) { m.Outputs = nil }},
		{"inputs as outputs", func(m *Model) { m.Inputs, m.Outputs = m.Outputs, m.Inputs }},
		{"tensor's name", func(m *Model) { m.Inits[1].Name = "g" }},
		{"tensor's kind", func(m *Model) { m.Inits[1].Kind = kind.Byte }},
		{"tensor's dim", func(m *Model) { m.Inits[3].Dims[0] = 3 }},
		{"tensor's dims, one more", func(m *Model) { m.Inits[1].Dims = []int64{1} }},
		{"tensor's data", func(m *Model) { m.Inits[3].Data = "odE" }},
		{"tensors in another order", func(m *Model) { m.Inits[0], m.Inits[2] = m.Inits[2], m.Inits[0] }},
		{"one tensor less", func(m *Model) { m.Inits = m.Inits[:3] }},
		{"no tensors", func(m *Model) { m.Inits = nil }},
		{"node's op", func(m *Model) { m.Nodes[2].Op = "neg" }},
		{"node's in", func(m *Model) { m.Nodes[0].In[1] = "x" }},
		{"node's in, in another order", func(m *Model) { slices.Reverse(m.Nodes[0].In) }},
		{"node's in, one less", func(m *Model) { m.Nodes[0].In = m.Nodes[0].In[:1] }},
		{"node's in, an empty one more", func(m *Model) { m.Nodes[1].In = []string{""} }},
		{"node's in, cut elsewhere", func(m *Model) { m.Nodes[0].In = []string{"xy", ""} }},
		{"node's out", func(m *Model) { m.Nodes[1].Out = "c" }},
		{"node's op and out", func(m *Model) { m.Nodes[2].Op, m.Nodes[2].Out = m.Nodes[2].Out, m.Nodes[2].Op }},
		{"nodes in another order", func(m *Model) { m.Nodes[1], m.Nodes[2] = m.Nodes[2], m.Nodes[1] }},
		{"one node less", func(m *Model) { m.Nodes = m.Nodes[:2] }},
		{"one empty node more", func(m *Model) { m.Nodes = append(m.Nodes, Node{}) }},
		{"no nodes", func(m *Model) { m.Nodes = nil }},
		{"attribute's name", func(m *Model) { m.Nodes[0].Attrs[0].Name = "Axis" }},
		{"attribute's number", func(m *Model) { m.Nodes[0].Attrs[0].Int = 2 }},
		{"attribute's row", func(m *Model) { m.Nodes[0].Attrs[2].Ints[1] = 1 }},
		{"attribute's row, in another order", func(m *Model) { slices.Reverse(m.Nodes[0].Attrs[1].Ints) }},
		{"attribute's row, one less", func(m *Model) { m.Nodes[0].Attrs[1].Ints = []int64{2} }},
		{"attribute's empty row, one more", func(m *Model) { m.Nodes[2].Attrs[2].Ints = []int64{0} }},
		{"number as a row", func(m *Model) { m.Nodes[0].Attrs[0] = Row("axis", 1) }},
		{"row as a number", func(m *Model) { m.Nodes[2].Attrs[1] = Number("row", 1) }},
		{"empty row as the number 0", func(m *Model) { m.Nodes[2].Attrs[2] = Number("none", 0) }},
		{"attributes in another order", func(m *Model) { l := m.Nodes[0].Attrs; l[0], l[1] = l[1], l[0] }},
		{"one attribute less", func(m *Model) { m.Nodes[0].Attrs = m.Nodes[0].Attrs[:3] }},
		{"one attribute more", func(m *Model) { m.Nodes[1].Attrs = []Attr{{}} }},
		{"nothing at all", func(m *Model) { *m = Model{} }},
	}
}

// wantSame holds Same against what is wanted, asked from both sides.
func wantSame[E interface{ Same(E) bool }](t *testing.T, what string, a, b E, want bool) {
	t.Helper()
	if got := a.Same(b); got != want {
		t.Errorf("%s: Same is %v; want %v", what, got, want)
	}
	if got := b.Same(a); got != want {
		t.Errorf("%s: Same, asked from the other side, is %v; want %v", what, got, want)
	}
}

// P10.1: a model is like itself, like one made as it, and like none that differs in one thing or in one order.
func TestSameModel(t *testing.T) {
	wantSame(t, "the zero model", Model{}, Model{}, true)
	wantSame(t, "the sample", sample(), sample(), true)
	wantSame(t, "the sample and the zero one", sample(), Model{}, false)
	l := changes()
	for i, c := range l {
		a := sample()
		c.do(&a)
		wantSame(t, c.what, a, sample(), false)
		wantSame(t, c.what+", twice", a, changed(c), true)
		for _, d := range l[:i] {
			wantSame(t, c.what+" and "+d.what, a, changed(d), false)
		}
	}
}

// changed is the sample with one thing done to it.
func changed(c change) Model {
	m := sample()
	c.do(&m)
	return m
}

// P10.1: what plays no part in an attribute counts for nothing, in a model and in a node, too.
func TestSamePassesOver(t *testing.T) {
	a, b := sample(), sample()
	a.Nodes[0].Attrs[0].Ints = []int64{4, 5}
	b.Nodes[0].Attrs[2].Int = 77
	b.Nodes[2].Attrs[0].Ints = nil
	wantSame(t, "Ints of one number and Int of a row", a, b, true)
	for i := range a.Nodes {
		wantSame(t, "the node "+strconv.Itoa(i), a.Nodes[i], b.Nodes[i], true)
	}
}

// P10.1, R4: empty lists and nil are one, wherever a list stands.
func TestSameEmpty(t *testing.T) {
	none := Model{9, []Info{}, []Info{}, []tensor.Tensor{}, []Node{}}
	wantSame(t, "lists of a model", none, Model{Opset: 9}, true)
	wantSame(t, "lists of a node", Node{"", []string{}, "", []Attr{}}, Node{}, true)
	wantSame(t, "an attribute's row", Attr{"a", false, 0, []int64{}}, Attr{Name: "a"}, true)
	a, b := sample(), sample()
	a.Inputs[1].Dims, b.Inputs[1].Dims = []int64{}, nil
	a.Inits[1].Dims, b.Inits[1].Dims = []int64{}, nil
	a.Nodes[1] = Node{"", []string{}, "", []Attr{}}
	a.Nodes[2].Attrs[2].Ints = []int64{}
	wantSame(t, "lists within a model", a, b, true)
}

// slowSame is what the chapter says of attributes that are alike, said another way.
func slowSame(a, b Attr) bool { return slowText(a) == slowText(b) }

func slowText(a Attr) string {
	if a.One {
		return strconv.Quote(a.Name) + " one " + strconv.FormatInt(a.Int, 10)
	}
	s := strconv.Quote(a.Name) + " row"
	for _, n := range a.Ints {
		s += " " + strconv.FormatInt(n, 10)
	}
	return s
}

// attrs are attributes of all sorts, with what plays no part in them.
func attrs() []Attr {
	rows := [][]int64{nil, {}, {0}, {1}, {-1}, {0, 0}, {1, 0}, {0, 1}, {math.MinInt64}, {math.MaxInt64, math.MinInt64}, {1, 2, 3}, {1, 2, 3, 4}}
	var l []Attr
	for _, name := range []string{"", "a", "b", "A", "a\x00"} {
		for _, one := range []bool{false, true} {
			for _, n := range []int64{0, 1, -1, math.MinInt64, math.MaxInt64} {
				for _, row := range rows {
					l = append(l, Attr{name, one, n, row})
				}
			}
		}
	}
	return l
}

// P10.1: two attributes, of all pairs.
func TestSameAttr(t *testing.T) {
	l := attrs()
	for _, a := range l {
		for _, b := range l {
			if got, want := a.Same(b), slowSame(a, b); got != want {
				t.Fatalf("%v and %v: Same is %v; want %v", a, b, got, want)
			}
		}
	}
}

// P10.1: two nodes, of all pairs.
func TestSameNode(t *testing.T) {
	ins := [][]string{nil, {""}, {"a"}, {"a", ""}, {"", "a"}, {"a", "b"}, {"ab"}, {"a", "a", "b"}}
	rows := [][]Attr{nil, {{}}, {Number("a", 0)}, {Number("a", 1)}, {Row("a")}, {Row("a", 1)}, {Row("a", 1), Number("a", 1)}, {Number("a", 1), Row("a", 1)}}
	var l []Node
	for _, op := range []string{"", "Neg", "neg"} {
		for _, in := range ins {
			for _, out := range []string{"", "a", "Neg"} {
				for _, row := range rows {
					l = append(l, Node{op, in, out, row})
				}
			}
		}
	}
	for i, a := range l {
		for j, b := range l {
			if got := a.Same(b); got != (i == j) {
				t.Fatalf("%v and %v: Same is %v; want %v", a, b, got, i == j)
			}
		}
	}
}

// spoil does to all that a model has, and to the room behind its lists, what would be seen in one that shares it.
func spoil(m Model) {
	for _, l := range [][]Info{m.Inputs, m.Outputs} {
		for _, i := range l[:cap(l)] {
			fill(i.Dims, 55)
		}
		fill(l, Info{Name: "spoilt"})
	}
	for _, x := range m.Inits[:cap(m.Inits)] {
		fill(x.Dims, 55)
	}
	fill(m.Inits, tensor.Tensor{Name: "spoilt"})
	for _, n := range m.Nodes[:cap(m.Nodes)] {
		spoilNode(n)
	}
	fill(m.Nodes, Node{Op: "spoilt"})
}

func spoilNode(n Node) {
	fill(n.In, "spoilt")
	for _, a := range n.Attrs[:cap(n.Attrs)] {
		fill(a.Ints, 55)
	}
	fill(n.Attrs, Attr{Name: "spoilt"})
}

// fill sets all elements of a list, and the room behind its end.
func fill[E any](l []E, with E) {
	l = l[:cap(l)]
	for i := range l {
		l[i] = with
	}
}

// P10.1, R3: a clone is an alike model, and what is done to one isn't seen in the other.
func TestClone(t *testing.T) {
	l := append(changes(), change{"as it is", func(*Model) {}})
	for _, c := range l {
		want, m := changed(c), changed(c)
		clone := m.Clone()
		wantSame(t, c.what+": the clone", clone, want, true)
		wantSame(t, c.what+": the cloned one", m, want, true)
		spoil(m)
		wantSame(t, c.what+": the clone of a spoilt one", clone, want, true)
		n := changed(c)
		spoil(n.Clone())
		if !reflect.DeepEqual(n, want) {
			t.Errorf("%s: the model is changed by what is done to its clone", c.what)
		}
	}
}

// P10.1: each thing that may be done to a model is seen in the clone that it is done to, and in that one alone.
func TestClonesApart(t *testing.T) {
	for _, c := range changes() {
		m := sample()
		a, b := m.Clone(), m.Clone()
		c.do(&a)
		wantSame(t, c.what+": the changed clone", a, changed(c), true)
		wantSame(t, c.what+": the other clone", b, sample(), true)
		wantSame(t, c.what+": the model", m, sample(), true)
	}
}

// P10.1, R3: no two lists of a clone share memory, even where those of the model do.
func TestCloneParts(t *testing.T) {
	dims, in, row := []int64{1, 2}, []string{"a", "b"}, []Attr{Row("r", 1, 2)}
	infos := []Info{{"a", kind.Int, dims}, {"b", kind.Int, dims}}
	node := Node{"Add", in, "c", row}
	m := Model{9, infos, infos, []tensor.Tensor{{Name: "t", Dims: dims}, {Name: "u", Dims: dims}}, []Node{node, node}}
	c := m.Clone()
	c.Inputs[0].Dims[0] = 9
	c.Inputs[1].Name = "changed"
	c.Outputs[1].Dims[1] = 9
	c.Inits[0].Dims[0] = 9
	c.Nodes[0].In[0] = "changed"
	c.Nodes[0].Attrs[0].Ints[0] = 9
	c.Nodes[1].Attrs[0].Name = "changed"
	want := Model{
		9, []Info{{"a", kind.Int, []int64{9, 2}}, {"changed", kind.Int, []int64{1, 2}}}, []Info{{"a", kind.Int, []int64{1, 2}}, {"b", kind.Int, []int64{1, 9}}},
		[]tensor.Tensor{{Name: "t", Dims: []int64{9, 2}}, {Name: "u", Dims: []int64{1, 2}}},
		[]Node{{"Add", []string{"changed", "b"}, "c", []Attr{Row("r", 9, 2)}}, {"Add", []string{"a", "b"}, "c", []Attr{Row("changed", 1, 2)}}},
	}
	if !reflect.DeepEqual(c, want) {
		t.Errorf("the clone is %v; want %v", c, want)
	}
}

// P10.1, R3: what is added to a list of a model isn't seen in the room behind one of its clone.
func TestCloneRoom(t *testing.T) {
	m := sample()
	m.Nodes = append(make([]Node, 0, 10), m.Nodes...)
	m.Nodes[0].In = append(make([]string, 0, 10), m.Nodes[0].In...)
	c := m.Clone()
	c.Nodes = append(c.Nodes, Node{Op: "more"})
	c.Nodes[0].In = append(c.Nodes[0].In, "more")
	if room := m.Nodes[:4]; !room[3].Same(Node{}) || m.Nodes[0].In[:3][2] != "" {
		t.Error("what is added to a clone lies behind the end of the model's list")
	}
}

// R2: what plays no part in an attribute is zero in an answer.
func TestNoPart(t *testing.T) {
	n := Node{Attrs: []Attr{{"one", true, 5, []int64{8, 9}}, {"row", false, 6, []int64{1}}}}
	want := []Attr{{Name: "one", One: true, Int: 5}, {Name: "row", Ints: []int64{1}}}
	got := Model{Nodes: []Node{n}}.Clone().Nodes[0].Attrs
	if !reflect.DeepEqual(got, want) {
		t.Errorf("the clone's attributes are %v; want %v", got, want)
	}
	for _, w := range want {
		if a, ok := n.Attr(w.Name); !ok || !reflect.DeepEqual(a, w) {
			t.Errorf("Attr(%s) is %v, %v; want %v, true", w.Name, a, ok, w)
		}
	}
}

// wantAttr holds all that is asked of a name against an attribute that is the first one of it, or that there is none.
func wantAttr(t *testing.T, n Node, name string, want Attr, there bool) {
	t.Helper()
	a, ok := n.Attr(name)
	if ok != there || !a.Same(want) || !there && !reflect.DeepEqual(a, Attr{}) {
		t.Errorf("Attr(%.20q) is %v, %v; want %v, %v", name, a, ok, want, there)
	}
	row, ok := n.Row(name)
	if isRow := there && !want.One; ok != isRow || !ok && len(row) > 0 || ok && !slices.Equal(row, want.Ints) {
		t.Errorf("Row(%.20q) is %v, %v; want %v, %v", name, row, ok, want, isRow)
	}
	for _, other := range edges {
		number := other
		if want.One {
			number = want.Int
		}
		if got := n.One(name, other); got != number {
			t.Errorf("One(%.20q, %d) is %d; want %d", name, other, got, number)
		}
	}
}

// P10.2: Attr, Row and One are of the first attribute of a name, whatever others of that name follow.
func TestFirst(t *testing.T) {
	n := sample().Nodes[0]
	wantAttr(t, n, "axis", Number("axis", 1), true)
	wantAttr(t, n, "perm", Row("perm", 1, 0), true)
	slices.Reverse(n.Attrs)
	wantAttr(t, n, "axis", Row("axis", 2, 3), true)
	wantAttr(t, n, "perm", Number("perm", 4), true)
	for _, name := range []string{"", "Axis", "axi", "axis ", "axiss", "Concat", "x", "c"} {
		wantAttr(t, n, name, Attr{}, false)
	}
	wantAttr(t, sample().Nodes[2], "none", Row("none"), true)
	wantAttr(t, Node{}, "", Attr{}, false)
	wantAttr(t, Node{Attrs: []Attr{{}}}, "", Attr{}, true)
	wantAttr(t, Node{Attrs: []Attr{{}}}, "a", Attr{}, false)
}

// P10.2: any name, and any number and any row of it.
func TestAttrs(t *testing.T) {
	n := Node{}
	for i, name := range names {
		if i%2 == 0 {
			n.Attrs = append(n.Attrs, Number(name, edges[i%len(edges)]))
		} else {
			n.Attrs = append(n.Attrs, Row(name, edges[:i%len(edges)]...))
		}
	}
	n.Attrs = append(n.Attrs, Row("a", 5), Number("b", 5))
	for i, name := range names {
		wantAttr(t, n, name, n.Attrs[i], true)
		wantAttr(t, n, name+"?", Attr{}, false)
	}
}

// P10.2, the chapter's example 1.
func TestExample(t *testing.T) {
	n := Node{Attrs: []Attr{Number("axis", 1)}}
	if got := n.One("axis", 7); got != 1 {
		t.Errorf(`One("axis", 7) is %d; want 1`, got)
	}
	if got := n.One("keep", 7); got != 7 {
		t.Errorf(`One("keep", 7) is %d; want 7`, got)
	}
}

// P10.2: Number and Row make an attribute of any name, and of any numbers.
func TestMade(t *testing.T) {
	for _, name := range names {
		for i, v := range edges {
			if got, want := Number(name, v), (Attr{Name: name, One: true, Int: v}); !reflect.DeepEqual(got, want) {
				t.Errorf("Number(%.20q, %d) is %v; want %v", name, v, got, want)
			}
			got := Row(name, edges[i:]...)
			if got.Name != name || got.One || got.Int != 0 || !slices.Equal(got.Ints, edges[i:]) {
				t.Errorf("Row(%.20q, %v) is %v", name, edges[i:], got)
			}
		}
		if got := Row(name); got.Name != name || got.One || got.Int != 0 || len(got.Ints) > 0 {
			t.Errorf("Row(%.20q) is %v; want no numbers", name, got)
		}
	}
}

// P10.2, R3: what is handed in isn't kept, and what is handed out isn't kept, either.
func TestNewMemory(t *testing.T) {
	l := append(make([]int64, 0, 4), 1, 2)
	a := Row("r", l...)
	fill(a.Ints, 55)
	if full := l[:4]; !slices.Equal(full, []int64{1, 2, 0, 0}) {
		t.Errorf("the row is handed in as 1 2 0 0, and is then %v", full)
	}
	a = Row("r", l...)
	fill(l, 66)
	n := Node{Attrs: []Attr{a}}
	wantAttr(t, n, "r", Attr{Name: "r", Ints: []int64{1, 2}}, true)
	first, _ := n.Attr("r")
	fill(first.Ints, 77)
	second, _ := n.Row("r")
	fill(second, 88)
	wantAttr(t, n, "r", Attr{Name: "r", Ints: []int64{1, 2}}, true)
	m := sample()
	w, _ := m.Init("w")
	fill(w.Dims, 99)
	wantSame(t, "the model whose tensor is changed", m, sample(), true)
}

// wantInit holds Init against the tensor that is the first one of a name, or that there is none.
func wantInit(t *testing.T, m Model, name string, want tensor.Tensor, there bool) {
	t.Helper()
	got, ok := m.Init(name)
	if ok != there || !got.Same(want) {
		t.Errorf("Init(%.20q) is %v, %v; want %v, %v", name, got, ok, want, there)
	}
	if !there && !reflect.DeepEqual(got, tensor.Tensor{}) {
		t.Errorf("Init(%.20q) is %v beside false", name, got)
	}
}

// P10.2: Init is the first tensor of a name among Inits; names of infos and of nodes' values aren't looked at.
func TestInit(t *testing.T) {
	m := sample()
	wantInit(t, m, "w", tensor.OfInts("w", []int64{2}, 1, -1), true)
	wantInit(t, m, "f", tensor.OfFlags("f", nil, true), true)
	wantInit(t, m, "", tensor.Tensor{Kind: kind.Kind(-1), Dims: []int64{-5}, Data: "odd"}, true)
	slices.Reverse(m.Inits)
	wantInit(t, m, "w", tensor.OfInts("w", []int64{1}, 7), true)
	for _, name := range []string{"x", "y", "z", "c", "W", "w ", "ww", "odd"} {
		wantInit(t, m, name, tensor.Tensor{}, false)
	}
	wantInit(t, Model{}, "", tensor.Tensor{}, false)
	wantInit(t, Model{Inits: []tensor.Tensor{{}}}, "", tensor.Tensor{}, true)
	m.Inits = nil
	for _, name := range names {
		m.Inits = append(m.Inits, tensor.OfInts(name, nil, int64(len(m.Inits))))
	}
	for i, name := range names {
		wantInit(t, m, name, tensor.OfInts(name, nil, int64(i)), true)
	}
}

// R5: a call leaves its receiver, and what it is handed, as they were.
func TestReceiver(t *testing.T) {
	m, n := sample(), sample()
	m.Same(n)
	m.Clone()
	for _, name := range append(names, "w", "f", "axis", "perm", "odd", "row", "none") {
		m.Init(name)
		for i := range m.Nodes {
			m.Nodes[i].Same(n.Nodes[0])
			m.Nodes[i].Attr(name)
			m.Nodes[i].Row(name)
			m.Nodes[i].One(name, 3)
		}
	}
	if !reflect.DeepEqual(m, sample()) || !reflect.DeepEqual(n, sample()) {
		t.Error("a call has changed what it was asked of")
	}
}

// rule makes numbers by a short rule, the same each time.
type rule uint64

func (r *rule) below(n int) int {
	*r = *r*6364136223846793005 + 1442695040888963407
	return int(uint64(*r>>33) % uint64(n))
}

func (r *rule) row() []int64 {
	var l []int64
	for range r.below(3) {
		l = append(l, int64(r.below(2)))
	}
	return l
}

func (r *rule) name() string { return string(rune('a' + r.below(2))) }

func (r *rule) infos() []Info {
	var l []Info
	for range r.below(2) {
		l = append(l, Info{r.name(), kind.Kind(r.below(2)), r.row()})
	}
	return l
}

// model is one of few parts, so that two are often alike.
func (r *rule) model() Model {
	m := Model{Opset: int64(r.below(2)), Inputs: r.infos(), Outputs: r.infos()}
	for range r.below(2) {
		m.Inits = append(m.Inits, tensor.Tensor{Name: r.name(), Kind: kind.Kind(r.below(2)), Dims: r.row(), Data: r.name()})
	}
	for range r.below(2) {
		n := Node{Op: r.name(), Out: r.name()}
		for range r.below(2) {
			n.In = append(n.In, r.name())
		}
		for range r.below(2) {
			n.Attrs = append(n.Attrs, Attr{r.name(), r.below(2) == 0, int64(r.below(2)), r.row()})
		}
		m.Nodes = append(m.Nodes, n)
	}
	return m
}

// slowModel is a text of a model that is another for each that isn't alike.
func slowModel(m Model) string {
	num := func(n int64) string { return strconv.FormatInt(n, 10) + ";" }
	row := func(l []int64) string { return slowText(Attr{Ints: l}) + ";" }
	s := num(m.Opset)
	for i, l := range [][]Info{m.Inputs, m.Outputs} {
		for _, info := range l {
			s += num(int64(i)) + info.Name + num(int64(info.Kind)) + row(info.Dims)
		}
	}
	for _, x := range m.Inits {
		s += "t" + x.Name + num(int64(x.Kind)) + row(x.Dims) + x.Data
	}
	for _, n := range m.Nodes {
		s += "n" + n.Op + n.Out + num(int64(len(n.In))) + strings.Join(n.In, ",")
		for _, a := range n.Attrs {
			s += slowText(a) + ";"
		}
	}
	return s
}

// P10.1: many small models, held against a slower way to tell whether two are alike.
func TestManyModels(t *testing.T) {
	r := rule(10)
	alike := 0
	met := map[string][]Model{}
	for range 20000 {
		m := r.model()
		text := slowModel(m)
		for _, other := range met[text] {
			alike++
			wantSame(t, text, m, other, true)
		}
		wantSame(t, text, m, m.Clone(), true)
		if len(met[text]) < 3 {
			met[text] = append(met[text], m)
		}
	}
	var last Model
	var lastText string
	for range 200000 {
		m := r.model()
		text := slowModel(m)
		if got := m.Same(last); got != (text == lastText) {
			t.Fatalf("%s and %s: Same is %v", text, lastText, got)
		}
		last, lastText = m, text
	}
	if alike < 1000 {
		t.Errorf("of many models only %d were alike", alike)
	}
}

// P10.1: models of many nodes.
func TestManyNodes(t *testing.T) {
	var m Model
	for i := range 1024 {
		n := Node{Op: "Concat", Out: "o" + strconv.Itoa(i), Attrs: []Attr{Number("axis", int64(i)), Row("row", make([]int64, 100)...)}}
		for k := range 64 {
			n.In = append(n.In, "i"+strconv.Itoa(k))
		}
		m.Nodes = append(m.Nodes, n)
		m.Inits = append(m.Inits, tensor.OfInts(n.Out, []int64{1}, int64(i)))
	}
	c := m.Clone()
	wantSame(t, "1024 nodes", m, c, true)
	for i := range c.Nodes {
		wantInit(t, c, "o"+strconv.Itoa(i), m.Inits[i], true)
	}
	c.Nodes[1023].Attrs[1].Ints[99]++
	wantSame(t, "1024 nodes, the last number another", m, c, false)
}

// P10.1, P10.2, R1: any attribute, cut from any texts and numbers.
func FuzzAttr(f *testing.F) {
	f.Add("axis", "keep", true, int64(1), int64(2), int64(3))
	f.Add("", "", false, int64(math.MinInt64), int64(0), int64(math.MaxInt64))
	f.Fuzz(func(t *testing.T, name, other string, one bool, a, b, c int64) {
		n := Node{Op: name, In: []string{other}, Out: other, Attrs: []Attr{{name, one, a, []int64{b, c}}, Number(other, c), Row(other, b)}}
		wantAttr(t, n, name, n.Attrs[0], true)
		if name != other {
			wantAttr(t, n, other, n.Attrs[1], true)
		}
		if !slowSame(n.Attrs[0], n.Attrs[0].own()) {
			t.Errorf("%v isn't as its copy is", n.Attrs[0])
		}
		m := Model{Opset: a, Nodes: []Node{n, n}}
		wantSame(t, "a model and its clone", m, m.Clone(), true)
	})
}
