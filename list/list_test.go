package list_test

import (
	"math/rand"
	"slices"
	"strings"
	"testing"

	"shale/api"
	"shale/fail"
	"shale/fold"
	"shale/layer"
	"shale/list"
	"shale/look"
	"shale/tree"
)

// file, dir, white and opaque are entries of their kinds.
func file(p, data string) api.Entry { return api.Entry{Path: p, Kind: api.File, Data: data} }
func dir(p string) api.Entry        { return api.Entry{Path: p, Kind: api.Dir} }
func white(p string) api.Entry      { return api.Entry{Path: p, Kind: api.White} }
func opaque(p string) api.Entry     { return api.Entry{Path: p, Kind: api.Opaque} }

// table is a list of entries, and stack one of layers.
type (
	table = []api.Entry
	stack = []table
)

// filled answers a full layer of files in the root, whose names begin with that letter.
func filled(first byte) table {
	var l table
	for i := range api.MaxNodes {
		l = append(l, file("/"+string([]byte{first, byte('a' + i/26), byte('a' + i%26)}), strings.Repeat("x", i%5)))
	}
	return l
}

// chain answers a directory in a directory, as deep as they go.
func chain() table {
	return table{dir("/a"), dir("/a/b"), dir("/a/b/c"), dir("/a/b/c/d"), dir("/a/b/c/d/e"), dir("/a/b/c/d/e/f")}
}

// sample is a stack with something of each kind, over and under the others.
func sample() stack {
	return stack{
		{dir("/a"), file("/a/b", "0"), file("/a/c", "0"), dir("/a/d"), file("/a/d/e", "deep"), file("/a/g", "low"), dir("/h"), file("/h/i", "i")},
		{dir("/a"), file("/a-", "minus"), white("/a/b"), file("/a/c", "1"), file("/f", "one"), file("/g", ""), opaque("/h"), dir("/h/j")},
		{dir("/a"), file("/a/c", "2"), dir("/a/d"), white("/f"), dir("/g"), dir("/g/x"), dir("/h"), dir("/k"), file("/k/l", "l")},
	}
}

// stacks are some that can be looked at.
func stacks() []stack {
	full := make(stack, api.MaxStack+1)
	for i := range full {
		full[i] = filled(byte('a' + i))
	}
	return []stack{nil, {}, {nil}, make(stack, api.MaxStack+1), sample(), {chain()}, {chain(), nil, chain()}, full}
}

// noStacks are some that can't be looked at: a layer isn't right, in one thing each, or there are too many.
func noStacks() []stack {
	var all []stack
	for _, l := range []table{
		{{}}, {{Path: "/a"}}, {dir("/")}, {dir("a")}, {dir("/a/")}, {dir("/A")}, {{Path: "/a", Kind: 5}}, {{Path: "/a", Kind: -1}},
		{{Path: "/a", Kind: api.Dir, Data: "x"}}, {file("/a", strings.Repeat("x", api.MaxData+1))}, {dir("/a"), dir("/a")}, {dir("/b"), dir("/a")},
		{file("/a/b", "")}, {white("/a"), white("/a/b")}, {file("/a", ""), file("/a/b", "")}, {dir("/a"), file("/a/b", ""), dir("/a-")},
		append(filled('f'), dir("/g")), make(table, 1<<16),
	} {
		for at := range 3 {
			all = append(all, slices.Insert(stack{{file("/q", "")}, {dir("/a")}}, at, l))
		}
	}
	for _, n := range []int{api.MaxStack + 2, api.MaxStack + 3, 1 << 16} {
		all = append(all, make(stack, n), append(make(stack, n-1), table{file("/q", "")}), append(stack{{dir("/a")}}, make(stack, n-1)...))
	}
	return all
}

// noPaths are texts that are no paths.
func noPaths() []string {
	return []string{
		"", "a", "a/b", "//", "/a/", "/a//b", "/A", "/.", "/a/../a", "/a b", "/a\x00", "/\xff", "/é", "/abcdefghi", "/a/b/c/d/e/f/g",
		strings.Repeat("/", 1<<12), "/" + strings.Repeat("a", 1<<12), strings.Repeat("/a", 1<<12),
	}
}

// short is a text, and few a stack, cut so that it can be told.
func short(p string) string { return p[:min(len(p), 70)] }
func few(s stack) stack {
	s = slices.Clone(s[:min(len(s), 10)])
	for i, l := range s {
		s[i] = l[:min(len(l), 12)]
	}
	return s
}

// has holds that a directory has just these names.
func has(t *testing.T, s stack, p string, names ...string) {
	t.Helper()
	if got, err := list.Names(s, p); err != nil || !slices.Equal(got, names) {
		t.Errorf("Names(%+v, %q) = %q, %v: not %q", few(s), p, got, err, names)
	}
	if is, err := list.Empty(s, p); err != nil || is != (len(names) == 0) {
		t.Errorf("Empty(%+v, %q) = %v, %v: it has %q", few(s), p, is, err, names)
	}
}

// refused holds that nothing is answered of a path, but an error.
func refused(t *testing.T, s stack, p string, code api.Errno) {
	t.Helper()
	if got, err := list.Names(s, p); len(got) > 0 || fail.Code(err) != int(code) {
		t.Errorf("Names(%d layers, %q) = %q, %v: not %d; %+v", len(s), short(p), got, err, code, few(s))
	}
	if is, err := list.Empty(s, p); is || fail.Code(err) != int(code) {
		t.Errorf("Empty(%d layers, %q) = %v, %v: not %d; %+v", len(s), short(p), is, err, code, few(s))
	}
}

// walked holds that a stack shows just these entries.
func walked(t *testing.T, s stack, want table) {
	t.Helper()
	if got := list.Walk(s); !slices.Equal(got, want) {
		t.Errorf("Walk(%+v) = %+v: not %+v", few(s), got, want)
	}
}

// 13.1: names, written out.

func TestExample(t *testing.T) {
	has(t, nil, "/")
	has(t, stack{}, "/")
	has(t, make(stack, api.MaxStack+1), "/")
}

func TestSample(t *testing.T) {
	s := sample()
	has(t, s, "/", "a", "a-", "g", "h", "k")
	has(t, s, "/a", "c", "d", "g")
	has(t, s, "/a/d", "e")
	has(t, s, "/g", "x")
	has(t, s, "/g/x")
	has(t, s, "/h", "j")
	has(t, s, "/h/j")
	has(t, s, "/k", "l")
	for p, code := range map[string]api.Errno{
		"/a/b": api.ErrNone, "/f": api.ErrNone, "/h/i": api.ErrNone, "/b": api.ErrNone, "/a/b/c": api.ErrNone, "/x/y/z": api.ErrNone,
		"/a-": api.ErrNotDir, "/a/c": api.ErrNotDir, "/a/d/e": api.ErrNotDir, "/k/l": api.ErrNotDir,
		"/a-/b": api.ErrNotDir, "/a/c/d": api.ErrNotDir, "/a/d/e/f/g": api.ErrNotDir,
	} {
		refused(t, s, p, code)
	}
}

// Names rise byte by byte, in whatever layers they are, and each comes once.
func TestNamesRise(t *testing.T) {
	names := []string{"-", "--", "-a", "0", "00", "9", "_", "_-", "a", "a-", "a0", "a_", "aa", "aaaaaaaa", "ab", "b", "z", "zz"}
	for _, in := range []string{"", "/d", "/d/e/f/g/h"} {
		s := make(stack, api.MaxStack+1)
		for n := range s {
			for _, e := range []api.Entry{dir("/d"), dir("/d/e"), dir("/d/e/f"), dir("/d/e/f/g"), dir("/d/e/f/g/h")} {
				if strings.HasPrefix(in+"/", e.Path+"/") {
					s[n] = append(s[n], e)
				}
			}
			for i, name := range names {
				if (i*5+n)%3 == 0 {
					s[n] = append(s[n], []api.Entry{file(in+"/"+name, name), dir(in + "/" + name), opaque(in + "/" + name)}[(i+n)%3])
				}
			}
		}
		p := in
		if p == "" {
			p = "/"
		}
		has(t, s, p, names...)
	}
}

// Names are of what lies in a directory itself, not of what begins alike, or lies below.
func TestNamesOfTheDirectoryAlone(t *testing.T) {
	l := table{
		dir("/a"), dir("/a-"), file("/a-/b", ""), dir("/a/a"), file("/a/a/c", ""), dir("/a/b"), file("/a/b/d", ""),
		file("/a0", ""), dir("/aa"), dir("/aa/a"), file("/aa/a/f", ""), file("/aa/e", ""), dir("/b"), dir("/b/a"), file("/b/a/g", ""),
	}
	for _, s := range []stack{{l}, {nil, l, nil}, {l, l}} {
		has(t, s, "/", "a", "a-", "a0", "aa", "b")
		has(t, s, "/a", "a", "b")
		has(t, s, "/a-", "b")
		has(t, s, "/a/a", "c")
		has(t, s, "/a/b", "d")
		has(t, s, "/aa", "a", "e")
		has(t, s, "/aa/a", "f")
		has(t, s, "/b", "a")
		has(t, s, "/b/a", "g")
	}
}

// What lies below a directory's floor has no names in it.
func TestNamesFromTheFloorOn(t *testing.T) {
	low := table{dir("/a"), file("/a/b", "0"), dir("/a/d"), file("/a/d/e", "0")}
	for _, between := range []api.Entry{file("/a", "x"), white("/a"), opaque("/a")} {
		has(t, stack{low, {between}, {dir("/a")}}, "/a")
		has(t, stack{low, {between}, nil, {dir("/a"), file("/a/c", "2")}, {dir("/a"), file("/a/f", "3")}}, "/a", "c", "f")
		s := stack{low, {between}, {dir("/a"), dir("/a/d"), file("/a/d/g", "2")}}
		has(t, s, "/", "a")
		has(t, s, "/a", "d")
		has(t, s, "/a/d", "g")
	}
	s := stack{low, {dir("/a"), opaque("/a/d")}, {dir("/a"), dir("/a/d"), dir("/a/d/x")}}
	has(t, s, "/a", "b", "d")
	has(t, s, "/a/d", "x")
	has(t, stack{low, nil, {dir("/a")}}, "/a", "b", "d")
	has(t, stack{low, nil, {dir("/a")}}, "/a/d", "e")
	has(t, stack{low, {opaque("/a")}}, "/a")
}

// What the whiteouts hide has no names, and a directory of nothing else is empty.
func TestHiddenNames(t *testing.T) {
	low := table{dir("/a"), file("/a/b", ""), dir("/a/d"), file("/a/d/e", ""), file("/c", "")}
	has(t, stack{low, {white("/a"), white("/c")}}, "/")
	has(t, stack{low, {white("/a")}}, "/", "c")
	has(t, stack{low, {dir("/a"), white("/a/b"), white("/a/d")}}, "/a")
	has(t, stack{low, {dir("/a"), white("/a/b")}}, "/a", "d")
	has(t, stack{low, {dir("/a"), white("/a/b")}, {dir("/a"), file("/a/b", "new")}}, "/a", "b", "d")
	has(t, stack{low, {dir("/a"), dir("/a/d"), white("/a/d/e")}}, "/a/d")
	has(t, stack{{white("/a"), white("/b")}}, "/")
	has(t, stack{{white("/a"), white("/b")}, {white("/a")}, {white("/c")}}, "/")
	refused(t, stack{low, {white("/a")}}, "/a", api.ErrNone)
	refused(t, stack{low, {file("/a", "")}}, "/a", api.ErrNotDir)
	refused(t, stack{low, {file("/a", "")}}, "/a/d", api.ErrNotDir)
}

func TestNamesOfDeepDirectories(t *testing.T) {
	for _, s := range []stack{{chain()}, {chain(), chain()}, {nil, chain(), nil}} {
		has(t, s, "/", "a")
		for i, e := range chain() {
			if i == api.MaxDepth-1 {
				has(t, s, e.Path)
			} else {
				has(t, s, e.Path, string([]byte{byte('b' + i)}))
			}
		}
	}
}

func TestNamesOfFullLayers(t *testing.T) {
	var s stack
	var names []string
	for n := range api.MaxStack + 1 {
		// The lowest layer's names come last.
		l := filled(byte('z' - n))
		s = append(s, l)
		for i := range l {
			names = append(names, l[i].Path[1:])
		}
	}
	slices.Sort(names)
	if len(names) != 576 {
		t.Fatalf("%d names", len(names))
	}
	has(t, s, "/", names...)
	if l := list.Walk(s); len(l) != 576 || !fold.Tree(l) {
		t.Errorf("Walk answers %d entries", len(l))
	}
}

// 13.1: the errors, in their order.

func TestOfNoStack(t *testing.T) {
	for _, s := range noStacks() {
		for _, p := range []string{"/", "/a", "/q", "/q/x", "/x/y", "", "a", "/a/", "/A"} {
			refused(t, s, p, api.ErrState)
		}
		walked(t, s, nil)
	}
	// A layer that isn't asked must be right all the same.
	refused(t, stack{{{}}, {opaque("/a")}}, "/a", api.ErrState)
	walked(t, stack{{{}}, {opaque("/a")}}, nil)
}

func TestOfNoPath(t *testing.T) {
	for _, s := range stacks() {
		for _, p := range noPaths() {
			refused(t, s, p, api.ErrPath)
		}
	}
}

// 13.2: walks, written out.

func TestWalk(t *testing.T) {
	walked(t, nil, nil)
	walked(t, stack{}, nil)
	walked(t, make(stack, api.MaxStack+1), nil)
	walked(t, stack{{white("/a"), white("/b")}}, nil)
	walked(t, stack{{file("/a", "x")}, {dir("/a")}}, table{dir("/a")})
	walked(t, stack{{dir("/a")}, {file("/a", "x")}}, table{file("/a", "x")})
	walked(t, stack{{opaque("/a"), file("/a/b", "x")}}, table{dir("/a"), file("/a/b", "x")})
	walked(t, stack{chain()}, chain())
	walked(t, stack{chain(), chain()}, chain())
	walked(t, sample(), table{
		dir("/a"), file("/a-", "minus"), file("/a/c", "2"), dir("/a/d"), file("/a/d/e", "deep"), file("/a/g", "low"),
		dir("/g"), dir("/g/x"), dir("/h"), dir("/h/j"), dir("/k"), file("/k/l", "l"),
	})
}

// A walk rises by whole paths: a hyphen is less than a slash, a digit and a letter are greater.
func TestWalkRises(t *testing.T) {
	all := table{
		dir("/a"), dir("/a-"), dir("/a--"), file("/a--/b", "1"), file("/a-/b", "2"), file("/a-b", "3"), dir("/a/b"), file("/a/b-", "4"), file("/a/b/c", "5"),
		file("/a/b0", "6"), file("/a0", "7"), dir("/a_"), file("/a_/b", "8"), dir("/ab"), file("/ab/b", "9"),
	}
	walked(t, stack{all}, all)
	s := make(stack, 3)
	for i, e := range all {
		for n := range s {
			if e.Kind == api.Dir || i%3 == n {
				s[n] = append(s[n], e)
			}
		}
	}
	walked(t, s, all)
}

func TestWalkFromTheFloorsOn(t *testing.T) {
	walked(t, stack{
		{dir("/a"), dir("/a/b"), dir("/a/b/c"), file("/a/b/c/x", "0")},
		{dir("/a"), opaque("/a/b"), dir("/a/b/c"), file("/a/b/c/y", "1")},
		{dir("/a"), dir("/a/b"), dir("/a/b/c"), file("/a/b/c/z", "2")},
		{dir("/a"), dir("/a/b"), opaque("/a/b/d"), file("/a/b/d/w", "3")},
		{dir("/a"), dir("/a/b"), dir("/a/b/d"), opaque("/a/b/d/e")},
	}, table{
		dir("/a"), dir("/a/b"), dir("/a/b/c"), file("/a/b/c/y", "1"), file("/a/b/c/z", "2"), dir("/a/b/d"), dir("/a/b/d/e"), file("/a/b/d/w", "3"),
	})
}

// 13.3

// asFolded holds that a stack's names, at each of the paths, are those of the folded stack, and that a walk is that.
func asFolded(t *testing.T, s stack, paths []string) {
	t.Helper()
	folded := fold.Stack(s)
	walked(t, s, folded)
	for _, p := range paths {
		if names, err := tree.List(folded, p); err == nil {
			has(t, s, p, names...)
			continue
		}
		_, err := look.Dir(s, p)
		refused(t, s, p, api.Errno(fail.Code(err)))
		if err == nil {
			t.Errorf("%+v: there is a directory at %s that the folded stack doesn't have", s, p)
		}
	}
}

// small answers all right layers that have nothing but entries of these paths, and of any kind.
func small(paths ...string) []table {
	all := []table{nil}
	for _, p := range paths {
		var next []table
		for _, l := range all {
			next = append(next, l)
			for _, e := range []api.Entry{file(p, p+string([]byte{byte('0' + len(all)%10)})), dir(p), white(p), opaque(p)} {
				if with := append(slices.Clone(l), e); layer.Right(with) {
					next = append(next, with)
				}
			}
		}
		all = next
	}
	return all
}

func TestTwoSmallLayersAsFolded(t *testing.T) {
	layers := small("/a", "/a-", "/a/b", "/a/b/c")
	if len(layers) != 145 {
		t.Fatalf("%d layers", len(layers))
	}
	for _, low := range layers {
		for _, high := range layers {
			asFolded(t, stack{low, high}, []string{"/", "/a", "/a-", "/a/b", "/a/b/c", "/b"})
		}
	}
}

func TestThreeSmallLayersAsFolded(t *testing.T) {
	layers := small("/a", "/a/b", "/a/b/c")
	if len(layers) != 29 {
		t.Fatalf("%d layers", len(layers))
	}
	for _, low := range layers {
		for _, mid := range layers {
			for _, high := range layers {
				asFolded(t, stack{low, mid, high}, []string{"/", "/a", "/a/b", "/a/b/c"})
			}
		}
	}
}

// nearby are paths that layers at random have something at, rising.
func nearby() []string {
	return []string{
		"/a", "/a-", "/a-/b", "/a/b", "/a/b-", "/a/b/c", "/a/b/c/d", "/a/b/c/d/e", "/a/b/c/d/e/f", "/a/b/d", "/a/c", "/ab", "/ab/c", "/b", "/b/c",
	}
}

// random answers a right layer.
func random(r *rand.Rand) table {
	kinds := []int{api.File, api.Dir, api.Dir, api.Dir, api.Dir, api.White, api.Opaque}
	var l table
	for _, p := range nearby() {
		e := api.Entry{Path: p, Kind: kinds[r.Intn(len(kinds))]}
		if e.Kind == api.File {
			e.Data = strings.Repeat("d", r.Intn(4))
		}
		if with := append(slices.Clone(l), e); r.Intn(4) > 0 && layer.Right(with) {
			l = with
		}
	}
	return l
}

func TestStacksAtRandomAsFolded(t *testing.T) {
	r := rand.New(rand.NewSource(13))
	for range 2000 {
		var s stack
		for range r.Intn(api.MaxStack + 2) {
			s = append(s, random(r))
		}
		asFolded(t, s, append(nearby(), "/", "/c", "/c/d", "/a/e"))
	}
	for _, s := range stacks() {
		asFolded(t, s, append(nearby(), "/", "/a/d", "/g", "/h", "/k"))
	}
}

// The order in which a map is gone through isn't seen.
func TestAnswersAreTheSameEachTime(t *testing.T) {
	for _, s := range stacks() {
		names, _ := list.Names(s, "/")
		all := list.Walk(s)
		for range 20 {
			has(t, s, "/", names...)
			walked(t, s, all)
		}
	}
}

// Memory: what is handed in isn't changed, and what is handed out is new.

// spoil fills a list, and the room behind it.
func spoil[T any](l []T, with T) {
	l = l[:cap(l)]
	for i := range l {
		l[i] = with
	}
}

func TestMemory(t *testing.T) {
	for _, s := range append(stacks(), stack{{{}}}, stack{{dir("/b"), dir("/a")}}) {
		handed := make(stack, len(s), len(s)+1)
		wholes := make(stack, len(s))
		for i, l := range s {
			wholes[i] = append(slices.Clone(l), file("/spare", "1"), file("/room", "2"))
			handed[i] = wholes[i][:len(l)]
		}
		handed[:len(s)+1][len(s)] = table{file("/spare", "3")}
		for _, p := range append(nearby(), "/", "/a/d", "/h", "no path") {
			names, err := list.Names(handed, p)
			kept, walk := slices.Clone(names), list.Walk(handed)
			all := slices.Clone(walk)
			list.Empty(handed, p)
			spoil(list.Walk(handed), file("/spoiled", ""))
			again, _ := list.Names(handed, p)
			spoil(again, "spoiled")
			if err == nil {
				has(t, s, p, kept...)
			}
			if !slices.Equal(names, kept) || !slices.Equal(walk, all) {
				t.Errorf("%+v, %q: an answer shares memory with a later one", few(s), p)
			}
			walked(t, s, all)
		}
		for i, l := range s {
			if !slices.Equal(wholes[i], append(slices.Clone(l), file("/spare", "1"), file("/room", "2"))) || !slices.Equal(handed[i], l) {
				t.Errorf("the layer %d of %+v was left as %+v", i, few(s), few(wholes[i:i+1]))
			}
		}
		if !slices.Equal(handed[:len(s)+1][len(s)], table{file("/spare", "3")}) {
			t.Errorf("the room behind %+v was changed", few(s))
		}
	}
}
