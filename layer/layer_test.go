package layer_test

import (
	"math"
	"math/rand"
	"slices"
	"strconv"
	"strings"
	"testing"

	"shale/adler"
	"shale/api"
	"shale/code"
	"shale/entry"
	"shale/fail"
	"shale/layer"
	"shale/path"
)

// file, dir, white and opaque are entries of their kinds.
func file(p, data string) api.Entry { return api.Entry{Path: p, Kind: api.File, Data: data} }
func dir(p string) api.Entry        { return api.Entry{Path: p, Kind: api.Dir} }
func white(p string) api.Entry      { return api.Entry{Path: p, Kind: api.White} }
func opaque(p string) api.Entry     { return api.Entry{Path: p, Kind: api.Opaque} }

// table is a list of entries.
type table = []api.Entry

// numbered answers n files of the root, their paths rising.
func numbered(n int) table {
	var l table
	for i := range n {
		l = append(l, file("/f"+string([]byte{byte('a' + i/26), byte('a' + i%26)}), strings.Repeat("x", i%5)))
	}
	return l
}

// chain answers a directory in a directory, as deep as they go, and a file.
func chain() table {
	return table{dir("/a"), opaque("/a/b"), dir("/a/b/c"), opaque("/a/b/c/d"), dir("/a/b/c/d/e"), file("/a/b/c/d/e/f", "deep")}
}

// largest answers a layer of as many bytes as there may be.
func largest() table {
	p := strings.Repeat("/abcdefgh", api.MaxDepth-1)
	var l table
	for n := 1; n < api.MaxDepth; n++ {
		l = append(l, dir(p[:n*(api.MaxName+1)]))
	}
	for i := len(l); i < api.MaxNodes; i++ {
		l = append(l, file(p+"/abcdef"+string([]byte{byte('a' + i/26), byte('a' + i%26)}), strings.Repeat("z", api.MaxData)))
	}
	return l
}

// goods are right layers.
func goods() []table {
	return []table{
		nil, {}, {file("/a", "")}, {file("/a", "x")}, {dir("/a")}, {white("/a")}, {opaque("/a")},
		{dir("/a"), file("/a/b", "x"), white("/c")},
		{opaque("/a"), white("/a/b"), opaque("/a/c"), dir("/a/d"), file("/a/d/e", strings.Repeat("\x00", api.MaxData))},
		// A hyphen is less than a slash, a digit and a letter are greater.
		{dir("/a"), dir("/a-"), file("/a-/b", "2"), file("/a-b", "3"), file("/a/b", "1"), file("/a0", "4"), dir("/a_"), file("/a_/b", "6"), white("/ab")},
		{file("/-", ""), file("/0", ""), file("/9", ""), file("/_", ""), file("/a", ""), file("/a-", ""), file("/a-a", ""), file("/aa", ""), file("/b", "")},
		chain(), numbered(api.MaxNodes - 1), numbered(api.MaxNodes), largest(),
	}
}

// bads are lists that are no right layers, in one thing each.
func bads() []table {
	all := []table{
		// Entries that aren't right.
		{{}}, {{Path: "/a"}}, {dir("/")}, {dir("")}, {dir("a")}, {dir("/a/")}, {dir("/A")}, {dir("/abcdefghi")},
		{{Path: "/a", Kind: 5}}, {{Path: "/a", Kind: -1}}, {{Path: "/a", Kind: math.MinInt}}, {{Path: "/a", Kind: math.MaxInt}},
		{{Path: "/a", Kind: api.Dir, Data: "x"}}, {{Path: "/a", Kind: api.White, Data: "x"}}, {{Path: "/a", Kind: api.Opaque, Data: "x"}},
		{file("/a", strings.Repeat("x", api.MaxData+1))},
		{dir("/a"), {Path: "/b"}}, {{Path: "/a"}, dir("/b")}, {dir("/a"), {}, dir("/b")}, {dir("/"), dir("/a")},
		append(chain(), dir("/a/b/c/d/e/f/g")),
		append(chain()[:5], dir("/a/b/c/d/e/f"), dir("/a/b/c/d/e/f/g")),
		// Paths that don't rise.
		{dir("/a"), dir("/a")}, {dir("/a"), file("/a", "x")}, {file("/a", "x"), file("/a", "y")}, {dir("/b"), dir("/a")},
		{dir("/a"), dir("/b"), dir("/b")}, {dir("/a"), dir("/c"), dir("/b")}, {dir("/b"), dir("/c"), dir("/a")},
		{file("/a/b", ""), dir("/a")}, {dir("/a"), file("/a/b", ""), dir("/a-")}, {dir("/ab"), dir("/a")}, {dir("/a0"), dir("/a-")},
		// Entries without their directory.
		{file("/a/b", "")}, {dir("/a/b")}, {white("/a/b")}, {opaque("/a/b")},
		{dir("/a"), file("/a/b/c", "")}, {dir("/a"), file("/b/c", "")}, {dir("/a"), file("/ab/c", "")}, {dir("/ab"), file("/a/b", "")},
		{dir("/a-"), file("/a/b", "")}, {dir("/a"), file("/a-/b", "")}, {dir("/a"), dir("/a/b"), dir("/a/c/d")},
		chain()[1:], append(chain()[:2:2], chain()[3:]...), {dir("/b"), file("/c/b", "")},
		// Entries whose directory is none.
		{file("/a", ""), file("/a/b", "")}, {white("/a"), file("/a/b", "")}, {white("/a"), white("/a/b")}, {file("/a", ""), white("/a/b")},
		{dir("/a"), file("/a/b", ""), file("/a/b/c", "")}, {opaque("/a"), white("/a/b"), dir("/a/b/c")},
		// Too many.
		numbered(api.MaxNodes + 1), numbered(2 * api.MaxNodes), append(largest(), file("/b", "")),
	}
	huge := make(table, 1<<20)
	for i := range huge {
		huge[i] = dir("/a")
	}
	return append(all, make(table, 1), make(table, api.MaxNodes), huge)
}

// texts are paths and others, to be asked for.
func texts() []string {
	return []string{"", "/", "//", "a", "/a", "/a/", "/a-", "/a-/b", "/a-b", "/a/b", "/a/b/c", "/a/b/c/d/e", "/a/b/c/d/e/f", "/a/b/c/d/e/f/g",
		"/a0", "/a_", "/ab", "/b", "/c", "/faa", "/fcl", "/fcm", "/zz", "/A", "/a\x00", "\x00", "\xff", "/\xff", "/abcdefghi",
		strings.Repeat("/abcdefgh", api.MaxDepth-1), strings.Repeat("/a", 1<<12), strings.Repeat("a", 1<<16)}
}

// text answers the text of a list, right or not, by the chapter's words.
func text(l table) string {
	s := code.Num(len(l))
	for _, e := range l {
		s += string([]byte{byte(e.Kind)}) + code.Str(e.Path) + code.Str(e.Data)
	}
	return summed(s)
}

// summed answers s and its sum.
func summed(s string) string {
	return s + adler.Four(adler.Sum(s))
}

// right tells whether a list is a right layer, by the chapter's words one after the other.
func right(l table) bool {
	if len(l) > api.MaxNodes {
		return false
	}
	for i, e := range l {
		if !entry.Right(e) {
			return false
		}
		for _, other := range l[:i] {
			if !(other.Path < e.Path) {
				return false
			}
		}
		names, _ := path.Split(e.Path)
		in, _ := path.Join(names[:len(names)-1])
		is := func(x api.Entry) bool { return x.Path == in && (x.Kind == api.Dir || x.Kind == api.Opaque) }
		if len(names) > 1 && !slices.ContainsFunc(l, is) {
			return false
		}
	}
	return true
}

// roomy answers l with spare room behind it, and the whole of that, to be held later on.
func roomy(l table) (table, table) {
	whole := append(slices.Clone(l), file("/spare", "1"), file("/room", "2"), file("/here", "3"))
	return whole[:len(l)], whole
}

// untouched holds that a call changed nothing of what it was handed, spare room included.
func untouched(t *testing.T, what string, whole, l table) {
	t.Helper()
	if !slices.Equal(whole[:len(l)], l) || !slices.Equal(whole[len(l):], table{file("/spare", "1"), file("/room", "2"), file("/here", "3")}) {
		t.Errorf("%s changed what it was handed: %+v", what, whole)
	}
}

// spoil fills a list with others, spare room included.
func spoil(l table) {
	l = l[:cap(l)]
	for i := range l {
		l[i] = api.Entry{Path: "spoilt", Kind: -7, Data: "spoilt"}
	}
}

// refused holds that a call answered nothing but an error of that number.
func refused(t *testing.T, what string, got table, err error, n api.Errno) {
	t.Helper()
	if len(got) != 0 || fail.Code(err) != int(n) {
		t.Errorf("%s = %d entries, %v: not the error %d", what, len(got), err, n)
	}
}

// answered holds that a call answered that list.
func answered(t *testing.T, what string, got table, err error, want table) {
	t.Helper()
	if err != nil || !slices.Equal(got, want) {
		t.Errorf("%s = %+v, %v: not %+v", what, got, err, want)
	}
}

// unreadable holds that a text isn't read.
func unreadable(t *testing.T, s string, n api.Errno) {
	t.Helper()
	got, err := layer.Read(s)
	if len(s) > 40 {
		s = s[:40] + ".."
	}
	refused(t, "Read("+strconv.Quote(s)+")", got, err, n)
}

// random answers a list that is often right.
func random(r *rand.Rand) table {
	all := []string{"/a", "/a-", "/a-/b", "/a/b", "/a/b/c", "/a/c", "/ab", "/ab/c", "/b", "/b/c"}
	var l table
	for _, p := range all {
		if r.Intn(3) > 0 {
			l = append(l, api.Entry{Path: p, Kind: []int{1, 2, 2, 2, 2, 2, 3, 4, 4, 4}[r.Intn(10)]})
		}
	}
	for i := range l {
		if l[i].Kind == api.File {
			l[i].Data = strings.Repeat("d", r.Intn(4))
		}
	}
	if r.Intn(10) == 0 {
		r.Shuffle(len(l), func(i, j int) { l[i], l[j] = l[j], l[i] })
	}
	return l
}

// 9.1: what is right.

func TestRightOfRightLayers(t *testing.T) {
	for _, l := range goods() {
		got, whole := roomy(l)
		if !layer.Right(got) {
			t.Errorf("Right(%+v) is false", l)
		}
		untouched(t, "Right", whole, l)
	}
}

func TestRightOfOthers(t *testing.T) {
	for i, l := range bads() {
		if layer.Right(l) {
			t.Errorf("Right of the list %d is true", i)
		}
	}
}

func TestRightAtRandom(t *testing.T) {
	r := rand.New(rand.NewSource(9))
	n := 0
	for range 20000 {
		l := random(r)
		if right(l) {
			n++
		}
		if layer.Right(l) != right(l) {
			t.Fatalf("Right(%+v) isn't %v", l, right(l))
		}
	}
	if n < 1000 || n > 19000 {
		t.Errorf("%d of the lists were right: too few of one sort", n)
	}
}

// 9.1: as a text.

func TestLayNothing(t *testing.T) {
	for _, l := range []table{nil, {}} {
		// The sum of a zero byte: a stays 1, b grows by 1.
		if s, err := layer.Lay(l); s != "\x00\x00\x01\x00\x01" || err != nil {
			t.Errorf("Lay of no entries = %q, %v", s, err)
		}
	}
}

func TestLayWrittenOut(t *testing.T) {
	l := table{dir("/a"), file("/a/b", "xy"), white("/c"), opaque("/d")}
	want := summed("\x04" + "\x02\x02/a\x00" + "\x01\x04/a/b\x02xy" + "\x03\x02/c\x00" + "\x04\x02/d\x00")
	if s, err := layer.Lay(l); s != want || err != nil {
		t.Errorf("Lay = %q, %v: not %q", s, err, want)
	}
}

func TestLayOfRightLayers(t *testing.T) {
	for _, l := range goods() {
		got, whole := roomy(l)
		if s, err := layer.Lay(got); s != text(l) || err != nil {
			t.Errorf("Lay(%+v) = %q, %v: not %q", l, s, err, text(l))
		}
		untouched(t, "Lay", whole, l)
	}
}

func TestLayOfOthers(t *testing.T) {
	for i, l := range bads() {
		if s, err := layer.Lay(l); s != "" || fail.Code(err) != int(api.ErrArg) {
			t.Errorf("Lay of the list %d = %d bytes, %v", i, len(s), err)
		}
	}
}

// 9.1: read.

func TestReadShort(t *testing.T) {
	for _, s := range []string{"", "\x00", "\x00\x00\x01", "\x00\x00\x01\x00", "\x00\x00\x00\x01", "abcd", text(nil)[:4], text(nil)[1:], adler.Four(adler.Sum(""))} {
		unreadable(t, s, api.ErrSum)
	}
}

func TestReadOfAnotherSum(t *testing.T) {
	for _, l := range goods() {
		s := text(l)
		unreadable(t, s+"x", api.ErrSum)
		unreadable(t, s+"\x00", api.ErrSum)
		unreadable(t, s[1:], api.ErrSum)
		unreadable(t, s[:len(s)-1], api.ErrSum)
		for i := range min(len(s), 300) {
			for _, x := range []byte{1, 2, 4, 128, 255} {
				b := []byte(s)
				b[len(b)-1-i] ^= x
				unreadable(t, string(b), api.ErrSum)
			}
		}
	}
	// The sum of nothing ahead is 1; bytes that are no layer's have no less need of a sum.
	unreadable(t, "\x05\x00\x00\x00\x01", api.ErrSum)
	unreadable(t, strings.Repeat("\xff", 100), api.ErrSum)
	unreadable(t, strings.Repeat("\x00", 100), api.ErrSum)
	unreadable(t, strings.Repeat("\x00", 1<<16), api.ErrSum)
}

func TestReadOfAnotherForm(t *testing.T) {
	for _, l := range bads() {
		if len(l) > 1<<16 {
			continue
		}
		unreadable(t, text(l), api.ErrForm)
	}
	for _, l := range goods() {
		s := text(l)
		rest := s[:len(s)-4]
		// One byte more, a second layer, and each beginning, with their right sums.
		unreadable(t, summed(rest+"\x00"), api.ErrForm)
		unreadable(t, summed(rest+"x"), api.ErrForm)
		unreadable(t, summed(s), api.ErrForm)
		unreadable(t, summed(rest+rest), api.ErrForm)
		for n := 1; n < min(len(rest), 400); n++ {
			unreadable(t, summed(rest[:n]), api.ErrForm)
			unreadable(t, summed(rest[:len(rest)-n]), formOf(rest[:len(rest)-n]))
		}
		// A number too great or too small by one.
		body := rest[1:]
		unreadable(t, summed(code.Num(len(l)+1)+body), api.ErrForm)
		if len(l) > 0 {
			unreadable(t, summed(code.Num(len(l)-1)+body), api.ErrForm)
		}
		// A second way to lay the number.
		unreadable(t, summed(string([]byte{byte(len(l)) + 128, 0})+body), api.ErrForm)
	}
	for _, s := range []string{"\x41", "\x7f", "\x80", "\xff", "\x80\x01", "\x01", code.Num(1 << 62), code.Num(math.MaxInt32), strings.Repeat("\xff", 9), strings.Repeat("\x80", 8) + "\x01", strings.Repeat("\x00", 1<<16)} {
		unreadable(t, summed(s), api.ErrForm)
	}
	unreadable(t, summed(code.Num(1<<62)+strings.Repeat("\x02\x02/a\x00", 100)), api.ErrForm)
}

// formOf tells what is answered of a beginning of a layer's bytes and their sum: without a byte there are fewer than 5.
func formOf(rest string) api.Errno {
	if rest == "" {
		return api.ErrSum
	}
	return api.ErrForm
}

func TestReadAtRandom(t *testing.T) {
	r := rand.New(rand.NewSource(91))
	// Those of few bytes, of which most that are changed count.
	small := goods()[:12]
	for range 30000 {
		s := text(small[r.Intn(len(small))])
		b := []byte(s[:len(s)-4])
		for range 1 + r.Intn(2) {
			b[r.Intn(len(b))] = byte(r.Intn(256) >> r.Intn(8))
		}
		s = summed(string(b))
		got, err := layer.Read(s)
		if err != nil {
			refused(t, "Read", got, err, api.ErrForm)
			continue
		}
		// There is one way to lay a layer, so what is read is laid as those bytes.
		if again, err := layer.Lay(got); again != s || err != nil {
			t.Fatalf("Read of %q = %+v, laid as %q, %v", s, got, again, err)
		}
	}
}

func TestReadGivesNewMemory(t *testing.T) {
	s := text(chain())
	first, _ := layer.Read(s)
	spoil(first)
	got, err := layer.Read(s)
	answered(t, "Read", got, err, chain())
}

// 9.2: of a list that isn't right.

func TestNothingOfOthers(t *testing.T) {
	for i, l := range bads() {
		for _, p := range []string{"/a", "/", "/b", "/faa", "", "/a/b"} {
			if e, is := layer.Find(l, p); e != (api.Entry{}) || is {
				t.Errorf("Find in the list %d = %+v, %v", i, e, is)
			}
			if got := layer.Below(l, p); len(got) != 0 {
				t.Errorf("Below of the list %d = %d entries", i, len(got))
			}
			// Though nothing is there, though dropping or putting it would mend the list.
			got, err := layer.Drop(l, p)
			refused(t, "Drop", got, err, api.ErrArg)
			for _, e := range []api.Entry{dir(p), file(p, "x"), white(p), {}} {
				got, err := layer.Put(l, e)
				refused(t, "Put", got, err, api.ErrArg)
			}
		}
	}
}

// 9.2: Find.

func TestFind(t *testing.T) {
	for _, l := range goods() {
		handed, whole := roomy(l)
		for _, e := range l {
			if got, is := layer.Find(handed, e.Path); got != e || !is {
				t.Errorf("Find(%+v, %s) = %+v, %v", l, e.Path, got, is)
			}
		}
		for _, p := range texts() {
			want := slices.IndexFunc(l, func(e api.Entry) bool { return e.Path == p })
			got, is := layer.Find(handed, p)
			if is != (want >= 0) || want < 0 && got != (api.Entry{}) || want >= 0 && got != l[want] {
				t.Errorf("Find(%+v, %s) = %+v, %v", l, p, got, is)
			}
		}
		untouched(t, "Find", whole, l)
	}
}

// 9.2: Below.

func TestBelowWrittenOut(t *testing.T) {
	l := goods()[9]
	below := func(p string, want ...api.Entry) {
		t.Helper()
		answered(t, "Below of "+p, layer.Below(l, p), nil, want)
	}
	below("/", l...)
	below("/a", file("/a/b", "1"))
	below("/a-", file("/a-/b", "2"))
	below("/a_", file("/a_/b", "6"))
	below("/a-/b")
	below("/a-b")
	below("/a0")
	below("/ab")
	below("/zz")
	below("/a/")
	below("")
	below("/A")
	l = chain()
	below("/a", l[1:]...)
	below("/a/b", l[2:]...)
	below("/a/b/c/d/e", l[5:]...)
	below("/a/b/c/d/e/f")
	below("/b")
	below("a")
	l = nil
	below("/")
}

func TestBelow(t *testing.T) {
	for _, l := range goods() {
		handed, whole := roomy(l)
		for _, p := range texts() {
			var want table
			for _, e := range l {
				if path.Under(e.Path, p) {
					want = append(want, e)
				}
			}
			got := layer.Below(handed, p)
			answered(t, "Below of "+p, got, nil, want)
			spoil(got)
			answered(t, "Below once more of "+p, layer.Below(handed, p), nil, want)
		}
		untouched(t, "Below", whole, l)
	}
}

// 9.2: Put.

func TestPutWrittenOut(t *testing.T) {
	l := table{dir("/a"), file("/a/b", "x"), white("/c")}
	put := func(e api.Entry, want ...api.Entry) {
		t.Helper()
		got, err := layer.Put(l, e)
		answered(t, "Put of "+e.Path, got, err, want)
	}
	put(file("/b", "n"), dir("/a"), file("/a/b", "x"), file("/b", "n"), white("/c"))
	put(dir("/-"), dir("/-"), dir("/a"), file("/a/b", "x"), white("/c"))
	put(opaque("/d"), dir("/a"), file("/a/b", "x"), white("/c"), opaque("/d"))
	put(white("/a/a"), dir("/a"), white("/a/a"), file("/a/b", "x"), white("/c"))
	put(file("/a-", ""), dir("/a"), file("/a-", ""), file("/a/b", "x"), white("/c"))
	put(opaque("/a"), opaque("/a"), file("/a/b", "x"), white("/c"))
	put(dir("/a"), l...)
	put(file("/a/b", ""), dir("/a"), file("/a/b", ""), white("/c"))
	put(white("/a/b"), dir("/a"), white("/a/b"), white("/c"))
	put(dir("/c"), dir("/a"), file("/a/b", "x"), dir("/c"))
	l = nil
	put(white("/x"), white("/x"))
	put(file("/x", strings.Repeat("x", api.MaxData)), file("/x", strings.Repeat("x", api.MaxData)))
}

func TestPutRefused(t *testing.T) {
	l := table{dir("/a"), file("/a/b", "x"), white("/c"), opaque("/d"), dir("/e"), dir("/e/f"), dir("/e/f/g")}
	put := func(e api.Entry, n api.Errno) {
		t.Helper()
		got, err := layer.Put(l, e)
		refused(t, "Put of "+e.Path, got, err, n)
	}
	put(api.Entry{}, api.ErrArg)
	put(dir("/"), api.ErrArg)
	put(dir(""), api.ErrArg)
	put(dir("/a/"), api.ErrArg)
	put(api.Entry{Path: "/a"}, api.ErrArg)
	put(api.Entry{Path: "/a", Kind: 5}, api.ErrArg)
	put(api.Entry{Path: "/z", Kind: math.MinInt}, api.ErrArg)
	put(api.Entry{Path: "/z", Kind: math.MaxInt}, api.ErrArg)
	put(api.Entry{Path: "/a", Kind: api.Dir, Data: "x"}, api.ErrArg)
	put(file("/a/b", strings.Repeat("x", api.MaxData+1)), api.ErrArg)
	put(api.Entry{Path: "/c/d", Kind: 0}, api.ErrArg)
	// Without a directory, or with one that is none.
	put(file("/x/y", ""), api.ErrState)
	put(dir("/ab/c"), api.ErrState)
	put(white("/e/f/x/y"), api.ErrState)
	put(file("/a/b/c", ""), api.ErrState)
	put(file("/c/d", ""), api.ErrState)
	put(white("/c/d"), api.ErrState)
	// In the place of a directory that isn't empty.
	put(file("/a", ""), api.ErrState)
	put(white("/a"), api.ErrState)
	put(white("/e"), api.ErrState)
	put(file("/e/f", "x"), api.ErrState)
	l = nil
	put(file("/x/y", ""), api.ErrState)
}

func TestPutFull(t *testing.T) {
	for _, l := range []table{numbered(api.MaxNodes), largest()} {
		for _, e := range []api.Entry{file("/0", ""), dir("/zz"), white("/mm"), file("/no/dir", ""), file("/faa/b", "")} {
			got, err := layer.Put(l, e)
			refused(t, "Put of "+e.Path, got, err, api.ErrSpace)
		}
		// What isn't right is told ahead of the room.
		got, err := layer.Put(l, dir("/"))
		refused(t, "Put of the root", got, err, api.ErrArg)
		for i, e := range l {
			with := slices.Clone(l)
			with[i] = opaque(e.Path)
			got, err := layer.Put(l, with[i])
			answered(t, "Put in the place of "+e.Path, got, err, with)
		}
	}
	got, err := layer.Put(largest(), white("/abcdefgh"))
	refused(t, "Put of a whiteout", got, err, api.ErrState)
	got, err = layer.Put(numbered(api.MaxNodes-1), dir("/zz"))
	answered(t, "Put of the last one", got, err, append(numbered(api.MaxNodes-1), dir("/zz")))
}

func TestPutGivesNewMemory(t *testing.T) {
	for _, l := range goods() {
		for _, e := range []api.Entry{dir("/-"), file("/a", "q"), opaque("/a"), white("/zz"), file("/a/b/c/d", "r"), {}} {
			handed, whole := roomy(l)
			first, _ := layer.Put(handed, e)
			want := slices.Clone(first)
			spoil(first)
			untouched(t, "Put", whole, l)
			second, _ := layer.Put(handed, e)
			if !slices.Equal(second, want) {
				t.Errorf("Put once more of %+v = %+v: not %+v", e, second, want)
			}
			// And none of it is kept.
			spoil(whole)
			if !slices.Equal(second, want) {
				t.Errorf("what Put answered shares what it was handed")
			}
		}
	}
}

// 9.2: Drop.

func TestDropWrittenOut(t *testing.T) {
	l := table{dir("/a"), file("/a/b", "x"), white("/c"), opaque("/d"), dir("/e"), dir("/e/f"), opaque("/g")}
	drop := func(p string, want ...api.Entry) {
		t.Helper()
		got, err := layer.Drop(l, p)
		answered(t, "Drop of "+p, got, err, want)
	}
	not := func(p string, n api.Errno) {
		t.Helper()
		got, err := layer.Drop(l, p)
		refused(t, "Drop of "+p, got, err, n)
	}
	drop("/a/b", dir("/a"), white("/c"), opaque("/d"), dir("/e"), dir("/e/f"), opaque("/g"))
	drop("/c", dir("/a"), file("/a/b", "x"), opaque("/d"), dir("/e"), dir("/e/f"), opaque("/g"))
	drop("/e/f", dir("/a"), file("/a/b", "x"), white("/c"), opaque("/d"), dir("/e"), opaque("/g"))
	drop("/g", l[:6]...)
	not("/a", api.ErrState)
	not("/e", api.ErrState)
	for _, p := range []string{"", "/", "a", "/a/", "/a/c", "/ab", "/b", "/0", "/z", "/c/d", "/A", "\xff", strings.Repeat("/a", 1<<12)} {
		not(p, api.ErrNone)
	}
	l = table{white("/a")}
	drop("/a")
	not("/b", api.ErrNone)
	l = nil
	not("/a", api.ErrNone)
	not("/", api.ErrNone)
	l = numbered(api.MaxNodes)
	drop("/faa", l[1:]...)
	drop("/fcl", l[:api.MaxNodes-1]...)
}

func TestDropGivesNewMemory(t *testing.T) {
	for _, l := range goods() {
		for _, p := range texts() {
			handed, whole := roomy(l)
			first, _ := layer.Drop(handed, p)
			want := slices.Clone(first)
			spoil(first)
			untouched(t, "Drop", whole, l)
			second, _ := layer.Drop(handed, p)
			if !slices.Equal(second, want) {
				t.Errorf("Drop once more of %s = %+v: not %+v", p, second, want)
			}
			spoil(whole)
			if !slices.Equal(second, want) {
				t.Errorf("what Drop answered shares what it was handed")
			}
		}
	}
}

// 9.3: there and back.

func TestReadAsLaid(t *testing.T) {
	all := goods()
	r := rand.New(rand.NewSource(93))
	for range 2000 {
		if l := random(r); right(l) {
			all = append(all, l)
		}
	}
	for _, l := range all {
		s, err := layer.Lay(l)
		if err != nil {
			t.Fatalf("Lay(%+v) = %v", l, err)
		}
		got, err := layer.Read(s)
		answered(t, "Read of what was laid", got, err, l)
	}
}

// 9.3: what was put is found, and no other one is changed.

// found holds that got has what l has, but at p, where it has e, if is, or nothing.
func found(t *testing.T, got, l table, e api.Entry, p string, is bool) {
	t.Helper()
	if x, there := layer.Find(got, p); there != is || is && x != e {
		t.Fatalf("behind the change Find of %s = %+v, %v: not %+v, %v", p, x, there, e, is)
	}
	n := 0
	for _, other := range l {
		if other.Path == p {
			continue
		}
		n++
		if x, there := layer.Find(got, other.Path); !there || x != other {
			t.Fatalf("behind the change of %s Find of %s = %+v, %v: not %+v", p, other.Path, x, there, other)
		}
	}
	if is {
		n++
	}
	if len(got) != n || !right(got) {
		t.Fatalf("behind the change of %s there are %+v: not %d", p, got, n)
	}
}

func TestPutAndDropAtRandom(t *testing.T) {
	r := rand.New(rand.NewSource(92))
	names := []string{"a", "b", "a-", "ab", "a0"}
	var l table
	done := map[int]int{}
	for range 5000 {
		p := ""
		for range 1 + r.Intn(4) {
			p += "/" + names[r.Intn(len(names))]
		}
		without := slices.DeleteFunc(slices.Clone(l), func(e api.Entry) bool { return e.Path == p })
		if r.Intn(8) < 3 {
			got, err := layer.Drop(l, p)
			done[100+fail.Code(err)]++
			if len(without) == len(l) {
				refused(t, "Drop of "+p, got, err, api.ErrNone)
			} else if !right(without) {
				refused(t, "Drop of "+p, got, err, api.ErrState)
			} else {
				found(t, got, l, api.Entry{}, p, false)
				l = got
			}
			continue
		}
		e := api.Entry{Path: p, Kind: []int{1, 2, 2, 2, 3, 4, 4}[r.Intn(7)]}
		with := append(without, e)
		slices.SortFunc(with, func(a, b api.Entry) int { return strings.Compare(a.Path, b.Path) })
		got, err := layer.Put(l, e)
		done[fail.Code(err)]++
		if len(with) > api.MaxNodes {
			refused(t, "Put of "+p, got, err, api.ErrSpace)
		} else if !right(with) {
			refused(t, "Put of "+p, got, err, api.ErrState)
		} else {
			found(t, got, l, e, p, true)
			l = got
		}
	}
	for _, n := range []int{0, int(api.ErrState), int(api.ErrSpace), 100, 100 + int(api.ErrNone), 100 + int(api.ErrState)} {
		if done[n] < 20 {
			t.Errorf("of the answer %d there were %d alone", n, done[n])
		}
	}
}
