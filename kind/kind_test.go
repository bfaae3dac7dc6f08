package kind

import (
	"math"
	"slices"
	"strings"
	"testing"
)

// want is what the document says of a kind.
type want struct {
	k    Kind
	n    int
	size int
	word string
}

func wanted() []want {
	return []want{
		{Float, 1, 4, "float"},
		{Byte, 2, 1, "byte"},
		{Int, 7, 8, "int"},
		{Flag, 9, 1, "flag"},
		{Gauss, 14, 8, "gauss"},
	}
}

// rounds is how often a thing is asked that must not hang on the order in which a map is gone through.
const rounds = 200

// noKinds are numbers of which none is a kind: all about those that are, and such as would be one, were they cut to fewer bits.
func noKinds() []Kind {
	l := []Kind{math.MinInt, math.MinInt + 1, math.MaxInt - 1, math.MaxInt}
	for n := -1000; n <= 1000; n++ {
		if !slices.ContainsFunc(wanted(), func(w want) bool { return w.n == n }) {
			l = append(l, Kind(n))
		}
	}
	for _, w := range wanted() {
		for bit := 8; bit < 64; bit++ {
			l = append(l, Kind(w.n|1<<bit))
		}
	}
	return l
}

func wantNoWord(t *testing.T, word string) {
	t.Helper()
	if k, ok := Of(word); k != 0 || ok {
		t.Errorf("Of(%q) is %d, %v; want 0, false", word, int(k), ok)
	}
}

// P4.1
func TestKinds(t *testing.T) {
	for _, w := range wanted() {
		if int(w.k) != w.n {
			t.Errorf("%s is %d; want %d", w.word, int(w.k), w.n)
		}
		if got := Kind(w.n).Size(); got != w.size {
			t.Errorf("Size of %d is %d; want %d", w.n, got, w.size)
		}
		if got := Kind(w.n).String(); got != w.word {
			t.Errorf("String of %d is %q; want %q", w.n, got, w.word)
		}
	}
}

// P4.1
func TestWhatIsNoKind(t *testing.T) {
	for _, k := range noKinds() {
		if got := k.Size(); got != 0 {
			t.Errorf("Size of %d is %d; want 0", int(k), got)
		}
		if got := k.String(); got != "none" {
			t.Errorf("String of %d is %q; want none", int(k), got)
		}
	}
}

// P4.1
func TestOfWords(t *testing.T) {
	for range rounds {
		for _, w := range wanted() {
			if k, ok := Of(w.word); k != w.k || !ok {
				t.Fatalf("Of(%q) is %d, %v; want %d, true", w.word, int(k), ok, w.n)
			}
		}
	}
}

// P4.1
func TestOfOtherTexts(t *testing.T) {
	for _, word := range []string{
		"", " ", "none", "None", "other", "ok", "0", "1", "2", "7", "9", "14", "\x00", "\xff", "\x01", "\x07",
		"float32", "float64", "double", "uint8", "bytes", "int64", "int32", "integer", "bool", "flags", "complex", "complex64",
		"kind", "Kind", "floatbyte", "float byte", "float,int", "ınt", "fl\u00f6at", "ｉｎｔ", strings.Repeat("float", 1<<16),
	} {
		wantNoWord(t, word)
	}
}

// P4.1: what lies near a kind's word isn't one.
func TestOfTextsNearWords(t *testing.T) {
	for _, w := range wanted() {
		for i := range len(w.word) {
			wantNoWord(t, w.word[:i])
			wantNoWord(t, w.word[i+1:])
			wantNoWord(t, w.word[:i]+w.word[i+1:])
			wantNoWord(t, w.word[:i]+strings.ToUpper(w.word[i:i+1])+w.word[i+1:])
		}
		for c := range 256 {
			one := string([]byte{byte(c)})
			wantNoWord(t, one+w.word)
			wantNoWord(t, w.word+one)
		}
		wantNoWord(t, strings.ToUpper(w.word))
		wantNoWord(t, w.word+w.word)
	}
}

// P4.1: gone through are all texts of up to three letters, of which int alone is a word.
func TestOfShortTexts(t *testing.T) {
	short := []string{""}
	for from := 0; len(short[from]) < 3; from++ {
		for c := 'a'; c <= 'z'; c++ {
			short = append(short, short[from]+string(c))
		}
	}
	for _, word := range short {
		if word != "int" {
			wantNoWord(t, word)
		}
	}
}

// P4.1: words and kinds are each other's.
func TestWordsThereAndBack(t *testing.T) {
	for _, k := range All() {
		if got, ok := Of(k.String()); got != k || !ok {
			t.Errorf("Of(%q) is %d, %v; want %d, true", k.String(), int(got), ok, int(k))
		}
	}
	for _, k := range noKinds() {
		wantNoWord(t, k.String())
	}
}

// P4.1, R5: they rise, each time.
func TestAll(t *testing.T) {
	want := []Kind{1, 2, 7, 9, 14}
	for range rounds {
		if got := All(); !slices.Equal(got, want) {
			t.Fatalf("All is %v; want %v", got, want)
		}
	}
}

// R3: what is handed out is new memory, the room behind its end too.
func TestAllIsNewEachTime(t *testing.T) {
	first := All()
	second := All()
	whole := first[:cap(first)]
	for i := range whole {
		whole[i] = -1
	}
	for _, got := range [][]Kind{second, All()} {
		if !slices.Equal(got, []Kind{Float, Byte, Int, Flag, Gauss}) {
			t.Errorf("All is %v, when what it once answered is changed", got)
		}
	}
}
