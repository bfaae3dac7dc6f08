package ops

import (
	"math"
	"reflect"
	"slices"
	"strconv"
	"strings"
	"testing"

	"agate/api"
	"agate/model"
)

// chapter is the chapter's table, as it stands there.
const chapter = `
| Identity, Neg, Not | 1 | |
| Add, Sub, Mul, And, Equal, Reshape | 2 | |
| Transpose | 1 | perm! row |
| Concat | 1 to 64 | axis! one |
| Squeeze, up to opset 12 | 1 | axes row |
| Squeeze, opset 13 | 1 or 2 | |
| Unsqueeze, up to opset 12 | 1 | axes! row |
| Unsqueeze, opset 13 | 2 | |
| ReduceSum, up to opset 12 | 1 | axes row, keepdims one |
| ReduceSum, opset 13 | 1 or 2 | keepdims one |
| Slice, opset 9 | 1 | starts! row, ends! row, axes row |
| Slice, from opset 10 on | 3 or 4 | |
`

// operators are all operators, rising.
var operators = []string{
	"Add", "And", "Concat", "Equal", "Identity", "Mul", "Neg", "Not", "ReduceSum", "Reshape", "Slice", "Squeeze", "Sub", "Transpose", "Unsqueeze",
}

// opsets are all opsets.
var opsets = []int64{9, 10, 11, 12, 13}

// noOpsets are numbers of which none is an opset: those about, the ends of the type, and such as would be one, were they cut to fewer bits.
func noOpsets() []int64 {
	l := []int64{math.MinInt64, math.MinInt64 + 1, math.MaxInt64 - 1, math.MaxInt64, math.MinInt64 + 9, -9, -13}
	for n := int64(-100); n <= 100; n++ {
		if !slices.Contains(opsets, n) {
			l = append(l, n)
		}
	}
	for _, n := range opsets {
		for bit := 8; bit < 64; bit++ {
			l = append(l, n|math.MinInt64>>(63-bit), n|1<<bit)
		}
	}
	return l
}

// noOperators are texts of which none is an operator: others of that sort, and what lies near the operators.
func noOperators() []string {
	l := []string{
		"", " ", "\x00", "\xff", "Div", "Max", "MatMul", "Or", "Xor", "Cast", "Constant", "Gather", "Shape", "Relu", "ReduceMean", "ReduceSumSquare",
		"Addition", "Id", "SliceSlice", "Add,Sub", "Add Sub", "Ａdd", "opset", strings.Repeat("Add", 1<<16),
	}
	for _, op := range operators {
		l = append(l, strings.ToLower(op), strings.ToUpper(op), op[:len(op)-1], op[1:], op+" ", " "+op, op+"\x00", op+"s", op+op, op[:1]+op)
	}
	return l
}

// wanted is what the chapter's table says of each operator at an opset, read from its words.
func wanted(opset int64) map[string]Schema {
	all := map[string]Schema{}
	for _, line := range strings.Split(strings.TrimSpace(chapter), "\n") {
		cells := strings.Split(line, "|")
		words := strings.FieldsFunc(cells[1], func(r rune) bool { return r == ',' || r == ' ' })
		if i := slices.Index(words, "opset"); i >= 0 {
			n, _ := strconv.ParseInt(words[i+1], 10, 64)
			if words[i-1] == "to" && opset > n || words[i-1] == "from" && opset < n || i == 1 && opset != n {
				continue
			}
			words = words[:1]
		}
		for _, op := range words {
			if _, twice := all[op]; twice {
				panic("two rows are of " + op)
			}
			all[op] = readSchema(cells[2], cells[3])
		}
	}
	return all
}

func readSchema(in, attrs string) Schema {
	numbers := strings.Fields(in)
	var s Schema
	s.Least, _ = strconv.Atoi(numbers[0])
	s.Most, _ = strconv.Atoi(numbers[len(numbers)-1])
	for _, rule := range strings.Split(attrs, ",") {
		words := strings.Fields(rule)
		if len(words) == 2 {
			s.Rules = append(s.Rules, Rule{Name: strings.TrimSuffix(words[0], "!"), One: words[1] == "one", Need: strings.HasSuffix(words[0], "!")})
		}
	}
	return s
}

// wantFound holds what is found against what is wanted, empty lists and nil being one.
func wantFound(t *testing.T, op string, opset int64, want Schema, there bool) {
	t.Helper()
	got, ok := Find(op, opset)
	if ok != there || got.Least != want.Least || got.Most != want.Most || !slices.Equal(got.Rules, want.Rules) {
		t.Errorf("Find(%.20q, %d) is %v, %v; want %v, %v", op, opset, got, ok, want, there)
	}
}

// P13.1: each operator at each opset is as a row of the chapter's table says, and there are no others.
func TestFind(t *testing.T) {
	for _, opset := range opsets {
		want := wanted(opset)
		if len(want) != len(operators) {
			t.Fatalf("the table has %d operators at %d; want %d", len(want), opset, len(operators))
		}
		for _, op := range operators {
			wantFound(t, op, opset, want[op], true)
		}
		for _, op := range noOperators() {
			wantFound(t, op, opset, Schema{}, false)
		}
	}
}

// P13.1: some said by hand, with those on both sides of an opset at which an operator changes.
func TestFindByHand(t *testing.T) {
	axes, mustAxes, keep := Rule{"axes", false, false}, Rule{"axes", false, true}, Rule{"keepdims", true, false}
	starts, ends := Rule{"starts", false, true}, Rule{"ends", false, true}
	for _, c := range []struct {
		op    string
		opset int64
		want  Schema
	}{
		{"Identity", 9, Schema{1, 1, nil}},
		{"Not", 13, Schema{1, 1, nil}},
		{"Equal", 9, Schema{2, 2, nil}},
		{"Reshape", 13, Schema{2, 2, nil}},
		{"Transpose", 11, Schema{1, 1, []Rule{{"perm", false, true}}}},
		{"Concat", 9, Schema{1, 64, []Rule{{"axis", true, true}}}},
		{"Squeeze", 12, Schema{1, 1, []Rule{axes}}},
		{"Squeeze", 13, Schema{1, 2, nil}},
		{"Unsqueeze", 12, Schema{1, 1, []Rule{mustAxes}}},
		{"Unsqueeze", 13, Schema{2, 2, nil}},
		{"ReduceSum", 12, Schema{1, 1, []Rule{axes, keep}}},
		{"ReduceSum", 13, Schema{1, 2, []Rule{keep}}},
		{"Slice", 9, Schema{1, 1, []Rule{starts, ends, axes}}},
		{"Slice", 10, Schema{3, 4, nil}},
		{"Slice", 13, Schema{3, 4, nil}},
	} {
		wantFound(t, c.op, c.opset, c.want, true)
	}
}

// P13.1: at what is no opset there is nothing, and Check tells that ahead of all else.
func TestNoOpset(t *testing.T) {
	for _, opset := range noOpsets() {
		for _, op := range append(slices.Clone(operators), "", "Div") {
			wantFound(t, op, opset, Schema{}, false)
			wantRows(t, op, opset, nil)
			for _, n := range []model.Node{{Op: op}, {Op: op, In: []string{"x"}}, {Op: op, Attrs: []model.Attr{{}, {}}}} {
				wantError(t, n, opset, api.ErrOpset)
			}
		}
	}
}

// P13.1: they rise, each time, and each of them is there at each opset.
func TestAll(t *testing.T) {
	for range 20 {
		if got := All(); !slices.Equal(got, operators) {
			t.Fatalf("All is %v; want %v", got, operators)
		}
	}
	for _, op := range All() {
		for _, opset := range opsets {
			if _, ok := Find(op, opset); !ok {
				t.Errorf("%s isn't there at %d", op, opset)
			}
		}
	}
}

// wantRows holds Rows against the places that are wanted.
func wantRows(t *testing.T, op string, opset int64, want []int) {
	t.Helper()
	if got := Rows(op, opset); !slices.Equal(got, want) {
		t.Errorf("Rows(%.20q, %d) is %v; want %v", op, opset, got, want)
	}
}

// P13.2: of each operator at each opset, and of what is none.
func TestRows(t *testing.T) {
	want := map[string][][]int{
		"Reshape":   {{1}, {1}, {1}, {1}, {1}},
		"Squeeze":   {nil, nil, nil, nil, {1}},
		"Unsqueeze": {nil, nil, nil, nil, {1}},
		"ReduceSum": {nil, nil, nil, nil, {1}},
		"Slice":     {nil, {1, 2, 3}, {1, 2, 3}, {1, 2, 3}, {1, 2, 3}},
	}
	for i, opset := range opsets {
		for _, op := range operators {
			var l []int
			if rows, ok := want[op]; ok {
				l = rows[i]
			}
			wantRows(t, op, opset, l)
		}
		for _, op := range noOperators() {
			wantRows(t, op, opset, nil)
		}
	}
}

// P13.2: the places are such as the operator can have.
func TestRowsAreIn(t *testing.T) {
	for _, opset := range opsets {
		for _, op := range operators {
			s, _ := Find(op, opset)
			for _, i := range Rows(op, opset) {
				if i < 1 || i >= s.Most {
					t.Errorf("%s at %d has no In %d", op, opset, i)
				}
			}
		}
	}
}

// names are so many In, of all sorts: of them nothing is asked.
func names(n int) []string {
	l := make([]string, n)
	for i := range l {
		l[i] = []string{"x", "", "a b", "x"}[i%4]
	}
	return l
}

// wantError holds Check against the error that is wanted.
func wantError(t *testing.T, n model.Node, opset int64, want api.Errno) {
	t.Helper()
	if got := Check(n, opset); got != want {
		t.Errorf("Check of %.20q with %d In and the attributes %.60v at %d is %s; want %s", n.Op, len(n.In), n.Attrs, opset, got.Word(), want.Word())
	}
}

// made is a node of an operator, with so many In and some attributes.
func made(op string, in int, attrs ...model.Attr) model.Node {
	return model.Node{Op: op, In: names(in), Out: "", Attrs: attrs}
}

// attrsFor are attributes by which a schema's rules are all met.
func attrsFor(s Schema) []model.Attr {
	var l []model.Attr
	for _, r := range s.Rules {
		l = append(l, model.Attr{Name: r.Name, One: r.One, Int: -1, Ints: []int64{math.MinInt64, 0, 0}})
	}
	return l
}

// P13.1, the chapter's example 1.
func TestExample(t *testing.T) {
	wantError(t, made("Unsqueeze", 1, model.Row("axes", 0)), 12, api.OK)
	wantError(t, made("Unsqueeze", 1), 12, api.ErrAttr)
	wantError(t, made("Unsqueeze", 2), 12, api.ErrArity)
	wantError(t, made("Unsqueeze", 2), 13, api.OK)
	wantError(t, made("Unsqueeze", 1), 13, api.ErrArity)
	wantError(t, made("Unsqueeze", 2, model.Row("axes", 0)), 13, api.ErrAttr)
}

// P13.1: what is no operator is told, whatever else is wrong but the opset.
func TestErrorsOfOperators(t *testing.T) {
	for _, op := range noOperators() {
		for _, opset := range opsets {
			wantError(t, made(op, 1), opset, api.ErrOp)
			wantError(t, made(op, 65, model.Number("no", 0), model.Number("no", 0)), opset, api.ErrOp)
		}
	}
}

// P13.1: so many In as the operator has, with one less and one more, and many more; ErrArity goes ahead of what is wrong with attributes.
func TestArity(t *testing.T) {
	for _, opset := range opsets {
		for op, s := range wanted(opset) {
			for n := range 200 {
				want := api.OK
				if n < s.Least || n > s.Most {
					want = api.ErrArity
				}
				wantError(t, made(op, n, attrsFor(s)...), opset, want)
				if want != api.OK {
					wantError(t, made(op, n, model.Number("no", 0), model.Number("no", 0)), opset, want)
				}
			}
			wantError(t, made(op, 1<<20), opset, api.ErrArity)
		}
	}
}

// P13.1: attributes in any order; those that may be there may be left out, those that must be there mustn't.
func TestAttrs(t *testing.T) {
	for _, opset := range opsets {
		for op, s := range wanted(opset) {
			for _, in := range []int{s.Least, s.Most} {
				l := attrsFor(s)
				wantError(t, made(op, in, l...), opset, api.OK)
				slices.Reverse(l)
				wantError(t, made(op, in, l...), opset, api.OK)
				for _, r := range s.Rules {
					want := api.OK
					if r.Need {
						want = api.ErrAttr
					}
					less := slices.DeleteFunc(slices.Clone(l), func(a model.Attr) bool { return a.Name == r.Name })
					wantError(t, made(op, in, less...), opset, want)
				}
			}
		}
	}
}

// P13.1: an attribute that the operator hasn't, one of the other form, and one that is there twice, wherever they stand among those that are right.
func TestErrorsOfAttrs(t *testing.T) {
	for _, opset := range opsets {
		for op, s := range wanted(opset) {
			l := attrsFor(s)
			for i := range len(l) + 1 {
				for _, name := range []string{"", "no", "Axes", "axe", "axess", "axes ", "keepdim", "start", "to", "axis\x00", op} {
					for _, a := range []model.Attr{model.Number(name, 0), model.Row(name)} {
						wantError(t, made(op, s.Least, slices.Insert(slices.Clone(l), i, a)...), opset, api.ErrAttr)
					}
				}
				for _, a := range l {
					wantError(t, made(op, s.Least, slices.Insert(slices.Clone(l), i, a)...), opset, api.ErrTwice)
					a.One = !a.One
					wantError(t, made(op, s.Least, slices.Insert(slices.Clone(l), i, a)...), opset, api.ErrAttr)
				}
			}
			for i := range l {
				other := slices.Clone(l)
				other[i].One = !other[i].One
				wantError(t, made(op, s.Least, other...), opset, api.ErrAttr)
			}
		}
	}
}

// P13.1: an attribute's form is told by One alone; of its numbers nothing is asked.
func TestForms(t *testing.T) {
	for _, n := range []int64{math.MinInt64, -1, 0, 1, math.MaxInt64} {
		for _, row := range [][]int64{nil, {}, {n}, {n, n}, make([]int64, 1<<17)} {
			one, many := model.Attr{Name: "axis", One: true, Int: n, Ints: row}, model.Attr{Name: "perm", Int: n, Ints: row}
			wantError(t, made("Concat", 1, one), 13, api.OK)
			wantError(t, made("Transpose", 1, many), 13, api.OK)
			one.One, many.One = false, true
			wantError(t, made("Concat", 1, one), 13, api.ErrAttr)
			wantError(t, made("Transpose", 1, many), 13, api.ErrAttr)
		}
	}
}

// P13.1, R2: where several faults of attributes apply, that of the first of them is told, and what isn't there at last.
func TestFirstFaults(t *testing.T) {
	axes, starts, ends, keep := model.Row("axes", 1), model.Row("starts", 1), model.Row("ends", 1), model.Number("keepdims", 1)
	other, no := model.Number("axes", 1), model.Row("no")
	for _, c := range []struct {
		op    string
		attrs []model.Attr
		want  api.Errno
	}{
		{"Slice", []model.Attr{axes, axes}, api.ErrTwice},
		{"Slice", []model.Attr{axes, axes, no}, api.ErrTwice},
		{"Slice", []model.Attr{axes, no, axes}, api.ErrAttr},
		{"Slice", []model.Attr{no, axes, axes}, api.ErrAttr},
		{"Slice", []model.Attr{axes, other}, api.ErrAttr},
		{"Slice", []model.Attr{axes, other, axes}, api.ErrAttr},
		{"Slice", []model.Attr{axes, axes, other}, api.ErrTwice},
		{"Slice", []model.Attr{no, no}, api.ErrAttr},
		{"Slice", []model.Attr{other, other}, api.ErrAttr},
		{"Slice", []model.Attr{starts, ends, starts, axes}, api.ErrTwice},
		{"Slice", []model.Attr{starts, axes}, api.ErrAttr},
		{"Slice", []model.Attr{axes, ends}, api.ErrAttr},
		{"Slice", []model.Attr{starts, ends}, api.OK},
		{"Slice", []model.Attr{ends, axes, starts}, api.OK},
		{"ReduceSum", []model.Attr{keep, axes}, api.OK},
		{"ReduceSum", []model.Attr{keep, axes, keep}, api.ErrTwice},
		{"ReduceSum", []model.Attr{keep, other, keep}, api.ErrAttr},
		{"ReduceSum", nil, api.OK},
	} {
		wantError(t, made(c.op, 1, c.attrs...), 9, c.want)
	}
}

// slowCheck is what the chapter says of a node, told from the list of all its faults.
func slowCheck(n model.Node, opset int64, want map[string]Schema) api.Errno {
	var faults []api.Errno
	must := func(holds bool, e api.Errno) {
		if !holds {
			faults = append(faults, e)
		}
	}
	must(slices.Contains(opsets, opset), api.ErrOpset)
	s, ok := want[n.Op]
	must(ok, api.ErrOp)
	must(s.Least <= len(n.In) && len(n.In) <= s.Most, api.ErrArity)
	times := func(l []model.Attr, name string) int {
		count := 0
		for _, a := range l {
			if a.Name == name {
				count++
			}
		}
		return count
	}
	for i, a := range n.Attrs {
		must(slices.Contains(s.Rules, Rule{a.Name, a.One, true}) || slices.Contains(s.Rules, Rule{a.Name, a.One, false}), api.ErrAttr)
		must(times(n.Attrs[:i], a.Name) == 0, api.ErrTwice)
	}
	for _, r := range s.Rules {
		must(!r.Need || times(n.Attrs, r.Name) > 0, api.ErrAttr)
	}
	if len(faults) == 0 {
		return api.OK
	}
	return faults[0]
}

// lists are all lists of up to so many of some attributes.
func lists(pool []model.Attr, most int) [][]model.Attr {
	all := [][]model.Attr{nil}
	for from := 0; len(all[from]) < most; from++ {
		for _, a := range pool {
			all = append(all, append(slices.Clone(all[from]), a))
		}
	}
	return all
}

// P13.1: all operators, at all opsets, with all lists of up to three attributes, held against a slower way.
func TestManyNodes(t *testing.T) {
	var pool []model.Attr
	for _, name := range []string{"perm", "axis", "axes", "keepdims", "starts", "ends"} {
		pool = append(pool, model.Number(name, 1), model.Row(name, 1))
	}
	pool = append(pool, model.Number("no", 1))
	all := lists(pool, 3)
	for opset := int64(8); opset <= 14; opset++ {
		want := wanted(opset)
		for _, op := range append(slices.Clone(operators), "Div") {
			for _, in := range []int{0, 1, 2, 3, 4, 5, 65} {
				if s := want[op]; opset == 8 || in > 1 && (in < s.Least || in > s.Most) {
					wantError(t, made(op, in), opset, slowCheck(made(op, in), opset, want))
					continue
				}
				n := made(op, in)
				for _, n.Attrs = range all {
					wantError(t, n, opset, slowCheck(n, opset, want))
				}
			}
		}
	}
}

// P13.1: of the operator with the most attributes, all lists of up to five that it may have somewhere.
func TestManyAttrs(t *testing.T) {
	pool := []model.Attr{model.Row("starts"), model.Row("ends"), model.Row("axes"), model.Number("axes", 0), model.Number("keepdims", 0)}
	n := made("Slice", 1)
	for _, n.Attrs = range lists(pool, 5) {
		wantError(t, n, 9, slowCheck(n, 9, wanted(9)))
	}
}

// R1: a node of very many In and attributes comes to its end.
func TestGreatNodes(t *testing.T) {
	many := make([]model.Attr, 1<<20)
	for i := range many {
		many[i] = model.Row("axes")
	}
	wantError(t, made("ReduceSum", 1, many...), 9, api.ErrTwice)
	wantError(t, made("ReduceSum", 1, many...), 13, api.ErrAttr)
	wantError(t, made("ReduceSum", 1<<20, many...), 9, api.ErrArity)
	wantError(t, model.Node{}, 9, api.ErrOp)
	wantError(t, model.Node{}, 0, api.ErrOpset)
}

// R3, R4: what is handed in, with the room behind its end, stays as it was; empty lists and nil are one.
func TestNothingIsChanged(t *testing.T) {
	node := func() model.Node {
		in := append(make([]string, 0, 8), "x", "y", "z")
		attrs := append(make([]model.Attr, 0, 8), model.Row("starts", 3, 1), model.Row("axes", 2), model.Row("ends", 4), model.Number("room", 1))
		return model.Node{Op: "Slice", In: in[:1], Out: "o", Attrs: attrs[:3]}
	}
	n := node()
	wantError(t, n, 9, api.OK)
	wantError(t, n, 13, api.ErrArity)
	want := node()
	if !reflect.DeepEqual(n, want) || !reflect.DeepEqual(n.In[:8], want.In[:8]) || !reflect.DeepEqual(n.Attrs[:8], want.Attrs[:8]) {
		t.Errorf("the node is %v behind its Check; want %v", n, want)
	}
	wantError(t, model.Node{Op: "Neg", In: []string{}, Attrs: []model.Attr{}}, 13, Check(model.Node{Op: "Neg"}, 13))
	wantError(t, model.Node{Op: "Neg", In: []string{"x"}, Attrs: []model.Attr{}}, 13, api.OK)
}

// fill sets all elements of a list, and the room behind its end.
func fill[E any](l []E, with E) {
	l = l[:cap(l)]
	for i := range l {
		l[i] = with
	}
}

// R3, R5: what is handed out is new memory, the room behind its end too, and is the same each time.
func TestNewEachTime(t *testing.T) {
	for _, opset := range opsets {
		for op, want := range wanted(opset) {
			first, _ := Find(op, opset)
			second, _ := Find(op, opset)
			fill(first.Rules, Rule{"spoilt", true, true})
			if !slices.Equal(second.Rules, want.Rules) {
				t.Errorf("the rules of %s at %d are changed by what is done to those answered ahead", op, opset)
			}
			wantFound(t, op, opset, want, true)
			rows, more := Rows(op, opset), Rows(op, opset)
			kept := slices.Clone(rows)
			fill(rows, 77)
			if !slices.Equal(more, kept) {
				t.Errorf("the rows of %s at %d are changed by what is done to those answered ahead", op, opset)
			}
			wantRows(t, op, opset, kept)
		}
	}
	first, second := All(), All()
	fill(first, "spoilt")
	for _, got := range [][]string{second, All()} {
		if !slices.Equal(got, operators) {
			t.Errorf("All is %v, when what it once answered is changed", got)
		}
	}
}
