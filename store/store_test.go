package store

import (
	"math"
	"regexp"
	"slices"
	"strconv"
	"strings"
	"testing"

	"agate/api"
)

// goodKeys are keys, of all that a key may be made of.
var goodKeys = []string{
	"a", "Z", "0", "_", "-", "a.b", "...", "....", ".a", "a.", "..a", "a..", ".-", "._", "-.", "w/a.bin", "a/b/c", "a/.../b", "A-Z_a-z.0-9",
	"a/..a", ".../...", "--", "a/-", "con", "a.bin.bin", "0/1/2/3/4/5/6/7/8/9", strings.Repeat("a", 255), strings.Repeat("a/", 127) + "a",
	strings.Repeat("a", 127) + "/" + strings.Repeat("b", 127), "a/" + strings.Repeat(".", 253),
}

// badKeys are texts that aren't keys, each for one thing.
var badKeys = []string{
	"", ".", "..", "/", "//", "./", "../", "/.", "/..", "/a", "a/", "a//b", "//a", "a//", "../a", "./a", "a/.", "a/..", "a/./b", "a/../b", "a/b/", "/a/b", "a/b//c",
	"a b", " a", "a ", "a\n", "\na", "a\x00", "\x00", "a\\b", "a:b", "a*", "a+b", "a,b", "a~", "@", "[", "`", "{", "a\x7f", "ä", "a/ä", "日本", "\xff", "a\xc3", "a/b c", "a/b/\t",
	"\u2024", "\uff0f", "a\u2215b", "K\u0130", strings.Repeat("a", 256), strings.Repeat("a/", 127) + "aa", strings.Repeat("a/", 128), strings.Repeat("a", 127) + "/" + strings.Repeat("b", 128),
	strings.Repeat("a", 511), strings.Repeat("a", 256+3), strings.Repeat("a", 65536+3), strings.Repeat("a/", 1<<20), strings.Repeat("/", 1<<20),
}

// keyForm is what the chapter says of a key's bytes; its length and its parts . and .. stand beside it.
var keyForm = regexp.MustCompile(`\A[A-Za-z0-9._-]+(/[A-Za-z0-9._-]+)*\z`)

// slowKey is what the chapter says of keys, said another way.
func slowKey(s string) bool {
	l := strings.Split(s, "/")
	return len(s) <= 255 && keyForm.MatchString(s) && !slices.Contains(l, ".") && !slices.Contains(l, "..")
}

// brief is a text to tell of.
func brief(s string) string {
	return strconv.Quote(s[:min(len(s), 40)]) + " of " + strconv.Itoa(len(s))
}

// files are so many of them, of different keys.
func files(n int) []File {
	var l []File
	for i := range n {
		l = append(l, File{"k" + strconv.Itoa(i), strings.Repeat("d", i%100)})
	}
	return l
}

// stored is a store of files that may be.
func stored(t *testing.T, l ...File) Store {
	t.Helper()
	s, e := New(l...)
	if e != api.OK {
		t.Fatalf("New of %d files is %v", len(l), e)
	}
	return s
}

func wantKey(t *testing.T, s string, want bool) {
	t.Helper()
	if got := Key(s); got != want {
		t.Errorf("Key(%s) is %v; want %v", brief(s), got, want)
	}
}

// wantNew holds a store against the files that it is of, or, beside an error, against the zero one.
func wantNew(t *testing.T, want api.Errno, l ...File) {
	t.Helper()
	s, e := New(l...)
	if e != want {
		t.Errorf("New of %d files is %v; want %v", len(l), e, want)
	}
	if e != api.OK {
		wantKeys(t, s)
		for _, f := range l {
			if Key(f.Key) {
				wantRead(t, s, f.Key, 0, 0, "", api.ErrMissing)
			}
		}
		return
	}
	var keys []string
	for _, f := range l {
		keys = append(keys, f.Key)
		wantRead(t, s, f.Key, 0, int64(len(f.Data)), f.Data, api.OK)
		wantRead(t, s, f.Key, 0, int64(len(f.Data))+1, "", api.ErrShort)
	}
	slices.Sort(keys)
	wantKeys(t, s, keys...)
}

func wantKeys(t *testing.T, s Store, want ...string) {
	t.Helper()
	if got := s.Keys(); !slices.Equal(got, want) {
		t.Errorf("Keys is %q; want %q", got, want)
	}
}

func wantRead(t *testing.T, s Store, key string, offset, length int64, want string, wantE api.Errno) {
	t.Helper()
	if got, e := s.Read(key, offset, length); got != want || e != wantE {
		t.Errorf("Read(%s, %d, %d) is %s, %v; want %s, %v", brief(key), offset, length, brief(got), e, brief(want), wantE)
	}
}

// P8.1: the chapter's example.
func TestExample(t *testing.T) {
	wantKey(t, "w/a.bin", true)
	for _, s := range []string{"../a", "/a", "a//b"} {
		wantKey(t, s, false)
	}
}

// P8.1
func TestKeys(t *testing.T) {
	for _, s := range goodKeys {
		wantKey(t, s, true)
	}
	for _, s := range badKeys {
		wantKey(t, s, false)
	}
}

// P8.1: each byte is one of those that are told, wherever it stands.
func TestKeyBytes(t *testing.T) {
	const may = "ABCDEFGHIJKLMNOPQRSTUVWXYZabcdefghijklmnopqrstuvwxyz0123456789._-"
	for c := range 256 {
		one := string([]byte{byte(c)})
		want := strings.Contains(may, one)
		wantKey(t, one, want && one != ".")
		for _, beside := range []string{"a", "Zz", "0.1", "w/x", "a/b/c"} {
			wantKey(t, one+beside, want)
			wantKey(t, beside+one, want)
			wantKey(t, beside+one+beside, want || one == "/")
		}
		wantKey(t, strings.Repeat(one, 255), want)
		wantKey(t, strings.Repeat("a", 254)+one, want)
		wantKey(t, "a/"+one+"/a", want && one != ".")
	}
}

// P8.1: a key has at most 255 bytes, each / counted, however many parts there are.
func TestKeyLengths(t *testing.T) {
	for n := range 600 {
		wantKey(t, strings.Repeat("a", n), n >= 1 && n <= 255)
		wantKey(t, strings.Repeat(".", n), n >= 3 && n <= 255)
		wantKey(t, strings.Repeat("-/", n)+"-", 2*n+1 <= 255)
		wantKey(t, strings.Repeat("ab/", n)+"ab", 3*n+2 <= 255)
		wantKey(t, strings.Repeat("a", n)+"/"+strings.Repeat("b", 100), n >= 1 && n+101 <= 255)
	}
}

// P8.1: all short texts of some bytes, held against the same said another way.
func TestKeysOfAllShortTexts(t *testing.T) {
	all := []string{""}
	for from := 0; len(all[from]) < 7; from++ {
		for _, c := range []string{".", "/", "a", " "} {
			all = append(all, all[from]+c)
		}
	}
	for _, s := range all {
		wantKey(t, s, slowKey(s))
	}
	for _, s := range slices.Concat(goodKeys, badKeys) {
		wantKey(t, s, slowKey(s))
	}
}

// P8.1
func TestNew(t *testing.T) {
	wantNew(t, api.OK)
	wantNew(t, api.OK, File{"a", ""})
	wantNew(t, api.OK, File{"w/a.bin", "\x00\xff\n"}, File{"a", "x"}, File{"w/a", "y"}, File{"A", "z"}, File{"a.", "x"})
	wantNew(t, api.OK, File{"big", strings.Repeat("b", 2*api.MaxBytes)}, File{"other", "b"})
	for _, key := range goodKeys {
		wantNew(t, api.OK, File{key, "data"}, File{"besides", "more"})
	}
}

// P8.1: 64 files are allowed, one more isn't, whatever they are.
func TestNewOfManyFiles(t *testing.T) {
	for _, n := range []int{1, 2, 10, 63, 64} {
		wantNew(t, api.OK, files(n)...)
	}
	for _, n := range []int{65, 66, 128, 256, 256 + 5, 65536 + 5} {
		wantNew(t, api.ErrSize, files(n)...)
	}
	wantNew(t, api.ErrSize, make([]File, 65)...)
	wantNew(t, api.ErrSize, slices.Repeat([]File{{"a", ""}}, 65)...)
	wantNew(t, api.ErrSize, append(files(64), File{"k0", ""})...)
	wantNew(t, api.ErrSize, append(files(64), File{"", ""})...)
	wantNew(t, api.ErrSize, append([]File{{"/", ""}}, files(64)...)...)
}

// P8.1: a file whose key is none, wherever it stands.
func TestNewOfWrongKeys(t *testing.T) {
	for _, key := range badKeys {
		wantNew(t, api.ErrPath, File{key, "x"})
		wantNew(t, api.ErrPath, File{key, "x"}, File{key, "x"})
		for at := range 4 {
			wantNew(t, api.ErrPath, slices.Insert(files(3), at, File{key, "x"})...)
		}
	}
	for _, at := range []int{0, 31, 63} {
		wantNew(t, api.ErrPath, slices.Insert(files(63), at, File{"..", ""})...)
	}
}

// P8.1: no two files under one key, whatever their Data are, and wherever they stand.
func TestNewOfTwoUnderOneKey(t *testing.T) {
	for _, key := range goodKeys {
		wantNew(t, api.ErrTwice, File{key, "x"}, File{key, "x"})
		wantNew(t, api.ErrTwice, File{key, ""}, File{key, ""})
		wantNew(t, api.ErrTwice, File{key, "x"}, File{"besides", ""}, File{key, "y"})
	}
	for at := range 63 {
		l := files(64)
		l[63].Key = l[at].Key
		wantNew(t, api.ErrTwice, l...)
	}
	for _, other := range []string{"A", "a.", ".a", "a/a", "aa", "a-", "_a"} {
		wantNew(t, api.OK, File{"a", "x"}, File{other, "x"})
	}
}

// P8.1: file by file: what is wrong with one ahead is told ahead.
func TestNewTellsTheFirstWrongFile(t *testing.T) {
	wantNew(t, api.ErrPath, File{"a", ""}, File{"/", ""}, File{"a", ""})
	wantNew(t, api.ErrTwice, File{"a", ""}, File{"a", ""}, File{"/", ""})
	wantNew(t, api.ErrPath, File{"", ""}, File{"a", ""}, File{"a", ""})
	wantNew(t, api.ErrTwice, File{"a", ""}, File{"b", ""}, File{"b", ""}, File{"..", ""}, File{"a", ""})
	wantNew(t, api.ErrPath, File{"a", ""}, File{"b", ""}, File{"..", ""}, File{"b", ""}, File{"..", ""})
}

// P8.1: rising, whatever the order of the files is: byte by byte, a text ahead of all that it begins.
func TestKeysRise(t *testing.T) {
	rising := []string{"-", "-a", "...", ".a", "0", "01", "10", "9", "A", "B", "Z", "_", "a", "a-", "a.", "a/a", "a/b", "a/b/c", "a0", "aA", "aa", "ab", "b", "z"}
	if !slices.IsSorted(rising) {
		t.Fatal("the keys of this test don't rise")
	}
	var l []File
	for _, key := range rising {
		l = append(l, File{key, ""})
	}
	for range len(l) {
		l = append(l[1:], l[0])
		s := stored(t, l...)
		for range 3 {
			wantKeys(t, s, rising...)
		}
		slices.Reverse(l)
		wantKeys(t, stored(t, l...), rising...)
		slices.Reverse(l)
	}
}

// P8.1: so many bytes, from the one of that number on; ErrShort where they aren't there.
func TestRead(t *testing.T) {
	const data = "0123456789"
	s := stored(t, File{"w/a.bin", data}, File{"b", "other than it"}, File{"empty", ""})
	for offset := range int64(14) {
		for length := range int64(14) {
			if offset+length > 10 {
				wantRead(t, s, "w/a.bin", offset, length, "", api.ErrShort)
			} else {
				wantRead(t, s, "w/a.bin", offset, length, data[offset:offset+length], api.OK)
			}
		}
	}
	wantRead(t, s, "b", 6, 4, "than", api.OK)
	wantRead(t, s, "empty", 0, 0, "", api.OK)
	wantRead(t, s, "empty", 0, 1, "", api.ErrShort)
	wantRead(t, s, "empty", 1, 0, "", api.ErrShort)
}

// P8.1: bytes are read as they are, also beyond what a model or a tensor may have.
func TestReadOfAllBytes(t *testing.T) {
	var all strings.Builder
	for i := range 1 << 21 {
		all.WriteByte(byte(i ^ i>>8))
	}
	data := all.String()
	s := stored(t, File{"a", data})
	for _, at := range []int64{0, 1, 255, 256, 65535, 65536, 1 << 20, 1<<20 + 1, 1<<21 - 300, 1<<21 - 1, 1 << 21} {
		for _, length := range []int64{0, 1, 2, 255, 256, 300, 65537, 1<<20 + 1, 1 << 21} {
			if at+length <= 1<<21 {
				wantRead(t, s, "a", at, length, data[at:at+length], api.OK)
			} else {
				wantRead(t, s, "a", at, length, "", api.ErrShort)
			}
		}
	}
}

// P8.1, R6: an offset and a length beyond all ends, which together are beyond the end of their type.
func TestReadOfGreatNumbers(t *testing.T) {
	s := stored(t, File{"a", "0123456789"}, File{"empty", ""})
	great := []int64{11, 1 << 31, 1<<32 - 1, 1 << 32, 1<<32 + 1, 1 << 62, math.MaxInt64 - 10, math.MaxInt64 - 9, math.MaxInt64 - 1, math.MaxInt64}
	for _, key := range []string{"a", "empty"} {
		for _, n := range great {
			for _, m := range append([]int64{0, 1, 9, 10}, great...) {
				wantRead(t, s, key, n, m, "", api.ErrShort)
				wantRead(t, s, key, m, n, "", api.ErrShort)
			}
		}
	}
}

// P8.1: a key that is none, ahead of all else.
func TestReadOfWrongKeys(t *testing.T) {
	s := stored(t, File{"a", "0123456789"})
	for _, key := range badKeys {
		for _, n := range []int64{0, 1, 11, -1, math.MinInt64, math.MaxInt64} {
			wantRead(t, s, key, n, 0, "", api.ErrPath)
			wantRead(t, s, key, 0, n, "", api.ErrPath)
			wantRead(t, Store{}, key, n, n, "", api.ErrPath)
		}
	}
}

// P8.1: an offset or a length below 0, whether or not the file is there, and whatever the other one is.
func TestReadBelowZero(t *testing.T) {
	s := stored(t, File{"a", "0123456789"})
	for _, below := range []int64{-1, -2, -10, -11, -1 << 32, math.MinInt64 + 1, math.MinInt64} {
		for _, n := range []int64{0, 1, 10, 11, math.MaxInt64, -1, math.MinInt64} {
			for _, key := range []string{"a", "b"} {
				wantRead(t, s, key, below, n, "", api.ErrValue)
				wantRead(t, s, key, n, below, "", api.ErrValue)
				wantRead(t, Store{}, key, below, n, "", api.ErrValue)
			}
		}
	}
}

// P8.1: a file that isn't there, however near its key is to one that is.
func TestReadOfMissingFiles(t *testing.T) {
	s := stored(t, File{"w/a.bin", "0123456789"}, File{"empty", ""})
	for _, key := range []string{"w", "a.bin", "w/a", "w/a.bi", "w/a.bin2", "W/a.bin", "w/a.bin/b", "w-a.bin", "none", strings.Repeat("k", 255)} {
		for _, n := range []int64{0, 1, 11, math.MaxInt64} {
			wantRead(t, s, key, n, 0, "", api.ErrMissing)
			wantRead(t, s, key, 0, n, "", api.ErrMissing)
			wantRead(t, s, key, n, n, "", api.ErrMissing)
		}
	}
}

// P8.1: the zero Store has no files, nor has one of none.
func TestStoreOfNoFiles(t *testing.T) {
	for _, s := range []Store{{}, stored(t), stored(t, []File{}...)} {
		wantKeys(t, s)
		for _, key := range goodKeys {
			wantRead(t, s, key, 0, 0, "", api.ErrMissing)
			wantRead(t, s, key, 5, math.MaxInt64, "", api.ErrMissing)
		}
	}
}

// R3: the list that is handed in stays as it is, with the room behind its end, and isn't kept.
func TestFilesAreNotChangedNorKept(t *testing.T) {
	room := []File{{"b", "x"}, {"a", "y"}, {"c", "z"}, {"behind", "end"}}
	was := slices.Clone(room)
	s := stored(t, room[:3]...)
	s.Keys()
	s.Read("a", 0, 1)
	if !slices.Equal(room, was) {
		t.Errorf("the list is %q now", room)
	}
	for i := range room {
		room[i] = File{"other", "other"}
	}
	wantKeys(t, s, "a", "b", "c")
	wantRead(t, s, "a", 0, 1, "y", api.OK)
	wantRead(t, s, "other", 0, 0, "", api.ErrMissing)
}

// R3, R5: stores are values: what is done with an answer, with a copy, or with another store changes none.
func TestStoresAreValues(t *testing.T) {
	s := stored(t, File{"a", "1"}, File{"b", "2"})
	copied := s
	first := s.Keys()
	for i := range first[:cap(first)] {
		first[:cap(first)][i] = "changed"
	}
	other := stored(t, File{"a", "other"}, File{"c", "3"})
	New(File{"a", "wrong"}, File{"a", "again"})
	for range 3 {
		for _, one := range []Store{s, copied} {
			wantKeys(t, one, "a", "b")
			wantRead(t, one, "a", 0, 1, "1", api.OK)
			wantRead(t, one, "a", 0, 2, "", api.ErrShort)
			wantRead(t, one, "c", 0, 0, "", api.ErrMissing)
		}
		wantKeys(t, other, "a", "c")
		wantRead(t, other, "a", 0, 5, "other", api.OK)
	}
	s = Store{}
	wantKeys(t, s)
	wantKeys(t, copied, "a", "b")
}

// R3: two answers of Keys share nothing.
func TestKeysAreNewEachTime(t *testing.T) {
	s := stored(t, files(5)...)
	first, second := s.Keys(), s.Keys()
	for i := range first[:cap(first)] {
		first[:cap(first)][i] = ""
	}
	if !slices.Equal(second, []string{"k0", "k1", "k2", "k3", "k4"}) {
		t.Errorf("a second answer is %q, when the first one is changed", second)
	}
}
