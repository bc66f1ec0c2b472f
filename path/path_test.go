package path_test

import (
	"slices"
	"strings"
	"testing"

	"shale/api"
	"shale/fail"
	"shale/path"
)

const long = 1 << 20

// paths are some that are, each with its names.
func paths() map[string][]string {
	return map[string][]string{
		"/":            nil,
		"/a":           {"a"},
		"/-":           {"-"},
		"/_":           {"_"},
		"/0":           {"0"},
		"/a/b":         {"a", "b"},
		"/a/a/a":       {"a", "a", "a"},
		"/az09-_xy":    {"az09-_xy"},
		"/a/b-c_9":     {"a", "b-c_9"},
		"/a/b/c/d/e/f": {"a", "b", "c", "d", "e", "f"},
		"/aaaaaaaa/bbbbbbbb/cccccccc/dddddddd/eeeeeeee/ffffffff": {
			"aaaaaaaa", "bbbbbbbb", "cccccccc", "dddddddd", "eeeeeeee", "ffffffff",
		},
	}
}

// wrong are texts that are no paths.
func wrong() []string {
	return []string{
		"", " ", "a", "a/b", "a/", "//", "///", "//a", "/a/", "/a//b", "/a/b/", " /a", "/a ", "/ a",
		".", "/.", "/..", "/a/.", "/A", "/a/B", "/a.b", "/a b", "/é", "/a\x00", "/\x00", "/\xff", "/a/\x80",
		"/abcdefghi", "/a/abcdefghi", "/abcdefghi/a", "\\a", "/a\\b", "/a\n", "/ﬁ", "/ａ", "/٣", "/�",
		"/a/b/c/d/e/f/g", "/a/b/c/d/e/f/", "/a/b/c/d/e/f/G", "/a/b/c/d/e/f//",
		strings.Repeat("/", long), strings.Repeat("/a", long), "/" + strings.Repeat("a", long), strings.Repeat("a", long),
	}
}

// short is a text, cut so that it can be told.
func short(s string) string {
	return s[:min(len(s), 60)]
}

// 3.1

func TestName(t *testing.T) {
	for _, s := range []string{"a", "z", "0", "9", "-", "_", "--", "__", "-a", "a-b_c", "abcdefgh", "01234567", "--------"} {
		if !path.Name(s) {
			t.Errorf("Name(%q) = false", s)
		}
	}
	for _, s := range []string{
		"", "/", "/a", "a/", "a/b", "abcdefghi", "A", "aB", "Za", ".", "..", "a b", " ", " a", "a ", "\x00", "a\x00",
		"é", "aé", "ﬁ", "ａ", "٣", "\xff", "a\x80", "\xe1", "�", "\n", strings.Repeat("a", long),
	} {
		if path.Name(s) {
			t.Errorf("Name(%q) = true", short(s))
		}
	}
}

func TestNameOfEachByte(t *testing.T) {
	const may = "abcdefghijklmnopqrstuvwxyz0123456789-_"
	for c := range 256 {
		b := string([]byte{byte(c)})
		want := strings.Contains(may, b)
		for _, s := range []string{b, "a" + b, b + "a", "abc" + b + "efg", "abcdefg" + b, b + "bcdefgh"} {
			if got := path.Name(s); got != want {
				t.Errorf("Name(%q) = %v, want %v", s, got, want)
			}
		}
	}
}

func TestNameOfEachLength(t *testing.T) {
	for n := range 3 * api.MaxName {
		want := n >= 1 && n <= 8
		if got := path.Name(strings.Repeat("x", n)); got != want {
			t.Errorf("Name of %d bytes = %v, want %v", n, got, want)
		}
	}
	// Bytes count, not runes.
	if path.Name(strings.Repeat("é", 4)) || path.Name(strings.Repeat("é", 8)) {
		t.Errorf("Name of runes that are no letters = true")
	}
}

func TestSplit(t *testing.T) {
	for p, want := range paths() {
		if got, e := path.Split(p); e != nil || !slices.Equal(got, want) {
			t.Errorf("Split(%q) = %q, %v, want %q", p, got, e, want)
		}
	}
	for _, p := range wrong() {
		if got, e := path.Split(p); fail.Code(e) != 2 || len(got) != 0 {
			t.Errorf("Split(%q) = %q, error number %d, want 2", short(p), got, fail.Code(e))
		}
	}
}

func TestSplitAnswersNewMemory(t *testing.T) {
	one, _ := path.Split("/a/b/c")
	for i := range one[:cap(one)] {
		one[:cap(one)][i] = "x"
	}
	if two, e := path.Split("/a/b/c"); e != nil || !slices.Equal(two, []string{"a", "b", "c"}) {
		t.Errorf("Split = %q, %v behind a change to its last answer", two, e)
	}
}

func TestJoin(t *testing.T) {
	for want, names := range paths() {
		if got, e := path.Join(names); e != nil || got != want {
			t.Errorf("Join(%q) = %q, %v, want %q", names, got, e, want)
		}
	}
	if got, e := path.Join([]string{}); e != nil || got != "/" {
		t.Errorf("Join of an empty list = %q, %v", got, e)
	}
}

func TestJoinOfWhatMakesNoPath(t *testing.T) {
	for _, names := range [][]string{
		{""}, {"", ""}, {"", "a"}, {"a", ""}, {"a", "", "b"}, {"/"}, {"/a"}, {"a/"}, {"a/b"}, {"a", "b/c"}, {"a/b", ""},
		{"A"}, {"a", "B"}, {"."}, {"a", ".."}, {"abcdefghi"}, {"a", "abcdefghi"}, {"\xff"}, {"é"}, {" "}, {"a", "b\x00"},
		{"a", "b", "c", "d", "e", "f", "g"}, {"a", "b", "c", "d", "e", "f", ""}, {"a", "b", "c", "d", "e", "G"},
		{"", "b", "c", "d", "e", "f"}, {"a/b", "c/d", "e/f"}, {strings.Repeat("a", long)},
		slices.Repeat([]string{"a"}, long), slices.Repeat([]string{""}, long),
	} {
		if got, e := path.Join(names); fail.Code(e) != 2 || got != "" {
			t.Errorf("Join of %d names = %q, error number %d, want 2: %.60q", len(names), got, fail.Code(e), names[0])
		}
	}
}

func TestJoinLeavesItsArgument(t *testing.T) {
	room := []string{"a", "b", "c", "d"}
	if got, e := path.Join(room[:2]); e != nil || got != "/a/b" {
		t.Errorf("Join = %q, %v", got, e)
	}
	if !slices.Equal(room, []string{"a", "b", "c", "d"}) {
		t.Errorf("Join changed its argument: %q", room)
	}
}

// 3.2

func TestParent(t *testing.T) {
	for _, c := range []struct{ p, dir, name string }{
		{"/a", "/", "a"},
		{"/abcdefgh", "/", "abcdefgh"},
		{"/a/b", "/a", "b"},
		{"/a/a/a", "/a/a", "a"},
		{"/ab/c-_9/def", "/ab/c-_9", "def"},
		{"/a/b/c/d/e/f", "/a/b/c/d/e", "f"},
	} {
		if dir, name, e := path.Parent(c.p); e != nil || dir != c.dir || name != c.name {
			t.Errorf("Parent(%q) = %q, %q, %v, want %q, %q", c.p, dir, name, e, c.dir, c.name)
		}
	}
}

func TestParentOfWhatHasNone(t *testing.T) {
	if dir, name, e := path.Parent("/"); fail.Code(e) != 1 || dir != "" || name != "" {
		t.Errorf("Parent of the root = %q, %q, %v", dir, name, e)
	}
	for _, p := range wrong() {
		if dir, name, e := path.Parent(p); fail.Code(e) != 2 || dir != "" || name != "" {
			t.Errorf("Parent(%q) = %q, %q, error number %d, want 2", short(p), dir, name, fail.Code(e))
		}
	}
}

func TestUnder(t *testing.T) {
	for _, c := range []struct {
		p, dir string
		want   bool
	}{
		{"/a", "/", true},
		{"/a/b", "/", true},
		{"/a/b/c/d/e/f", "/", true},
		{"/a/b", "/a", true},
		{"/a/a", "/a", true},
		{"/a/b/c", "/a", true},
		{"/a/b/c", "/a/b", true},
		{"/a/b/c/d/e/f", "/a/b/c/d/e", true},
		{"/", "/", false},
		{"/a", "/a", false},
		{"/a/b", "/a/b", false},
		{"/", "/a", false},
		{"/a", "/a/b", false},
		{"/ab", "/a", false},
		{"/a-", "/a", false},
		{"/ab/c", "/a", false},
		{"/b/a", "/a", false},
		{"/b/a/c", "/a", false},
		{"/a/bc", "/a/b", false},
		{"/a/b/c", "/a/c", false},
		{"/a/b", "/b", false},
	} {
		if got := path.Under(c.p, c.dir); got != c.want {
			t.Errorf("Under(%q, %q) = %v", c.p, c.dir, got)
		}
	}
}

func TestUnderAsTheNamesBegin(t *testing.T) {
	for p, names := range paths() {
		for dir, first := range paths() {
			want := len(first) < len(names) && slices.Equal(names[:len(first)], first)
			if got := path.Under(p, dir); got != want {
				t.Errorf("Under(%q, %q) = %v, want %v", p, dir, got, want)
			}
		}
	}
}

func TestUnderOfNoPath(t *testing.T) {
	for _, p := range wrong() {
		for _, dir := range []string{"/", "/a", "", p} {
			if path.Under(p, dir) || path.Under(dir, p) {
				t.Errorf("Under of %q and %q, in one order or the other", short(p), short(dir))
			}
		}
		if path.Under(p+"/a", p) {
			t.Errorf("Under(%q behind which stands /a, the same) = true", short(p))
		}
	}
	for _, c := range [][2]string{{"/a/", "/a"}, {"/a//b", "/a"}, {"/a/B", "/a"}, {"/A/b", "/A"}, {"a/b", "a"}, {"/a/b", "/a/"}, {"/a", "//"}} {
		if path.Under(c[0], c[1]) {
			t.Errorf("Under(%q, %q) = true", c[0], c[1])
		}
	}
}

func TestDeep(t *testing.T) {
	for p, names := range paths() {
		if got := path.Deep(p); got != len(names) {
			t.Errorf("Deep(%q) = %d, want %d", p, got, len(names))
		}
	}
	for _, p := range wrong() {
		if got := path.Deep(p); got != -1 {
			t.Errorf("Deep(%q) = %d, want -1", short(p), got)
		}
	}
}

func TestDeepOfEachDepth(t *testing.T) {
	for n := 1; n < 2*api.MaxDepth; n++ {
		want := n
		if n > 6 {
			want = -1
		}
		if got := path.Deep(strings.Repeat("/abcdefgh", n)); got != want {
			t.Errorf("Deep of %d names = %d, want %d", n, got, want)
		}
	}
}

// 3.3

// texts are all of up to n of the parts.
func texts(n int, parts ...string) []string {
	all := []string{""}
	for last := all; n > 0; n-- {
		var next []string
		for _, s := range last {
			for _, part := range parts {
				next = append(next, s+part)
			}
		}
		all, last = append(all, next...), next
	}
	return all
}

func TestJoinUndoesSplit(t *testing.T) {
	seen := 0
	for _, p := range append(texts(7, "/", "a", "-", "A"), texts(5, "/a", "/b_9", "/abcdefgh", "/", "i", "é")...) {
		names, e := path.Split(p)
		if e != nil {
			continue
		}
		seen++
		if got, e := path.Join(names); e != nil || got != p {
			t.Errorf("Join of Split(%q) = %q, %v", p, got, e)
		}
		if got := path.Deep(p); got != len(names) {
			t.Errorf("Deep(%q) = %d, its names are %q", p, got, names)
		}
	}
	if seen < 500 {
		t.Errorf("only %d paths among the texts", seen)
	}
}

func TestSplitUndoesJoin(t *testing.T) {
	seen := 0
	for _, s := range texts(7, "a", "b_9 ", " ", "/", "-") {
		names := strings.Split(s, " ")
		p, e := path.Join(names)
		if e != nil {
			continue
		}
		seen++
		if got, e := path.Split(p); e != nil || !slices.Equal(got, names) {
			t.Errorf("Split of Join(%q) = %q, %v", names, got, e)
		}
	}
	if seen < 500 {
		t.Errorf("only %d lists that make a path among the texts", seen)
	}
}

func TestParentAndNameMakeThePath(t *testing.T) {
	for p, names := range paths() {
		dir, name, e := path.Parent(p)
		if p == "/" {
			continue
		}
		above, _ := path.Split(dir)
		if e != nil || !slices.Equal(append(above, name), names) || !path.Under(p, dir) {
			t.Errorf("Parent(%q) = %q, %q, %v", p, dir, name, e)
		}
	}
}
