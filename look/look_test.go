package look_test

import (
	"math"
	"math/rand"
	"slices"
	"strings"
	"testing"

	"shale/api"
	"shale/fail"
	"shale/fold"
	"shale/layer"
	"shale/look"
	"shale/path"
	"shale/tree"
)

// file, dir, white and opaque are entries of their kinds.
func file(p, data string) api.Entry { return api.Entry{Path: p, Kind: api.File, Data: data} }
func dir(p string) api.Entry        { return api.Entry{Path: p, Kind: api.Dir} }
func white(p string) api.Entry      { return api.Entry{Path: p, Kind: api.White} }
func opaque(p string) api.Entry     { return api.Entry{Path: p, Kind: api.Opaque} }

// table is a list of entries, and stack one of layers.
type (
	table = []api.Entry
	stack = []table
)

// numbered answers n files of the root, their paths rising.
func numbered(n int) table {
	var l table
	for i := range n {
		l = append(l, file("/f"+string([]byte{byte('a' + i/26/26), byte('a' + i/26%26), byte('a' + i%26)}), strings.Repeat("x", i%5)))
	}
	return l
}

// chain answers a directory in a directory, as deep as they go, and a file.
func chain() table {
	return table{dir("/a"), dir("/a/b"), dir("/a/b/c"), dir("/a/b/c/d"), dir("/a/b/c/d/e"), file("/a/b/c/d/e/f", "deep")}
}

// sample is a stack with something of each kind, over and under the others.
func sample() stack {
	return stack{
		{dir("/a"), file("/a/b", "0"), file("/a/c", "0"), dir("/a/d"), file("/a/d/e", "deep"), file("/a/g", "low"), dir("/h"), file("/h/i", "i")},
		{dir("/a"), file("/a-", "minus"), white("/a/b"), file("/a/c", "1"), file("/f", "one"), file("/g", ""), opaque("/h"), dir("/h/j")},
		{dir("/a"), file("/a/c", "2"), dir("/a/d"), white("/f"), dir("/g"), dir("/g/x"), dir("/h"), dir("/k"), file("/k/l", "l")},
	}
}

// stacks are some that can be looked at.
func stacks() []stack {
	return []stack{
		nil, {}, {nil}, make(stack, api.MaxStack+1), sample(), {chain()}, {chain(), chain(), nil, chain()},
		{numbered(api.MaxNodes)}, {numbered(api.MaxNodes), {dir("/a")}, nil, nil, nil, nil, nil, nil, {white("/faaa")}},
	}
}

// noLayers are lists that are no right layers, in one thing each.
func noLayers() []table {
	return []table{
		{{}}, {{Path: "/a"}}, {dir("/")}, {dir("")}, {dir("a")}, {dir("/a/")}, {dir("/A")}, {dir("/abcdefghi")}, {file("/", "")},
		{{Path: "/a", Kind: 5}}, {{Path: "/a", Kind: -1}}, {{Path: "/a", Kind: math.MinInt}}, {{Path: "/a", Kind: math.MaxInt}},
		{{Path: "/a", Kind: api.Dir, Data: "x"}}, {{Path: "/a", Kind: api.White, Data: "x"}}, {{Path: "/a", Kind: api.Opaque, Data: "x"}},
		{file("/a", strings.Repeat("x", api.MaxData+1))}, {dir("/a"), {}, dir("/b")}, append(chain()[:5], dir("/a/b/c/d/e/f"), dir("/a/b/c/d/e/f/g")),
		{dir("/a"), dir("/a")}, {file("/a", "x"), file("/a", "y")}, {dir("/b"), dir("/a")}, {file("/a/b", ""), dir("/a")}, {dir("/a"), file("/a/b", ""), dir("/a-")},
		{file("/a/b", "")}, {white("/a/b")}, {dir("/a"), file("/a/b/c", "")}, {dir("/a-"), file("/a/b", "")}, {white("/a"), white("/a/b")}, {file("/a", ""), file("/a/b", "")},
		numbered(api.MaxNodes + 1), append(numbered(api.MaxNodes), white("/g")), make(table, 1), make(table, 1<<20),
	}
}

// noPaths are texts that are no paths.
func noPaths() []string {
	return []string{
		"", "a", "a/b", "//", "/a/", "/a//b", "//a", "/A", "/a/B", "/.", "/..", "/a/../a", "/ ", "/a b", "/a\x00", "/\xff", "/é", "\\a", "/abcdefghi", "/a/abcdefghi",
		"/a/b/c/d/e/f/g", "/1/2/3/4/5/6/7", " /a", "/a\n", strings.Repeat("/", 1<<16), "/" + strings.Repeat("a", 1<<16), strings.Repeat("/a", 1<<16),
	}
}

// short is a text, and few a stack, cut so that it can be told.
func short(p string) string { return p[:min(len(p), 70)] }
func few(s stack) stack {
	s = slices.Clone(s[:min(len(s), 10)])
	for i, l := range s {
		s[i] = l[:min(len(l), 12)]
	}
	return s
}

// lies holds that something does at a path: the entry that a stack shows, and its floor.
func lies(t *testing.T, s stack, e api.Entry, floor int) {
	t.Helper()
	f, err := look.At(s, e.Path)
	if err != nil || f != (look.Found{E: e, Floor: floor}) {
		t.Errorf("At(%+v, %q) = %+v, %v: not %+v, %d", few(s), e.Path, f, err, e, floor)
	}
	code := 0
	if e.Kind == api.File {
		code, floor = int(api.ErrNotDir), 0
	}
	if n, err := look.Dir(s, e.Path); n != floor || fail.Code(err) != code {
		t.Errorf("Dir(%+v, %q) = %d, %v: not %d, %d", few(s), e.Path, n, err, floor, code)
	}
	if !look.Shows(s, e.Path) {
		t.Errorf("Shows(%+v, %q) is false", few(s), e.Path)
	}
}

// refused holds that nothing is answered of a path, but an error.
func refused(t *testing.T, s stack, p string, code api.Errno) {
	t.Helper()
	if f, err := look.At(s, p); f != (look.Found{}) || fail.Code(err) != int(code) {
		t.Errorf("At(%d layers, %q) = %+v, %v: not %d; %+v", len(s), short(p), f, err, code, few(s))
	}
	if n, err := look.Dir(s, p); n != 0 || fail.Code(err) != int(code) {
		t.Errorf("Dir(%d layers, %q) = %d, %v: not %d; %+v", len(s), short(p), n, err, code, few(s))
	}
	if look.Shows(s, p) {
		t.Errorf("Shows(%d layers, %q) is true; %+v", len(s), short(p), few(s))
	}
}

// root is what lies at the root, whatever the stack.
func root() api.Entry { return dir("/") }

// 12.1, 12.2: what lies at a path, written out.

func TestExample(t *testing.T) {
	lies(t, stack{{file("/a", "x")}, {dir("/a")}}, dir("/a"), 1)
}

func TestSample(t *testing.T) {
	s := sample()
	lies(t, s, root(), 0)
	lies(t, s, dir("/a"), 0)
	lies(t, s, file("/a-", "minus"), 1)
	lies(t, s, file("/a/c", "2"), 2)
	lies(t, s, dir("/a/d"), 0)
	lies(t, s, file("/a/d/e", "deep"), 0)
	lies(t, s, file("/a/g", "low"), 0)
	lies(t, s, dir("/g"), 2)
	lies(t, s, dir("/g/x"), 2)
	lies(t, s, dir("/h"), 1)
	lies(t, s, dir("/h/j"), 1)
	lies(t, s, dir("/k"), 2)
	lies(t, s, file("/k/l", "l"), 2)
	for p, code := range map[string]api.Errno{
		// Nothing lies there: there is a whiteout, an opaque directory, or nothing at all.
		"/a/b": api.ErrNone, "/f": api.ErrNone, "/h/i": api.ErrNone, "/b": api.ErrNone, "/a/a": api.ErrNone, "/a/h": api.ErrNone, "/k/m": api.ErrNone, "/h/j/k": api.ErrNone,
		// In its place a directory is missing.
		"/a/b/c": api.ErrNone, "/f/x": api.ErrNone, "/f/x/y": api.ErrNone, "/x/y/z": api.ErrNone, "/a/x/y": api.ErrNone, "/1/2/3/4/5/6": api.ErrNone, "/h/i/j": api.ErrNone,
		// A file lies where a directory must.
		"/a-/b": api.ErrNotDir, "/a/c/d": api.ErrNotDir, "/a/c/d/e": api.ErrNotDir, "/a/d/e/f": api.ErrNotDir, "/a/g/b/c/d/e": api.ErrNotDir, "/k/l/m": api.ErrNotDir,
	} {
		refused(t, s, p, code)
	}
}

func TestRoot(t *testing.T) {
	for _, s := range stacks() {
		lies(t, s, root(), 0)
	}
	refused(t, nil, "/a", api.ErrNone)
	refused(t, stack{}, "/a/b", api.ErrNone)
	refused(t, make(stack, api.MaxStack+1), "/a/b", api.ErrNone)
}

// One path, and an entry of each kind at it in two layers, one over the other.
func TestTwoLayers(t *testing.T) {
	layers := map[string]table{"none": nil, "low": {file("/a", "low")}, "high": {file("/a", "high")}, "dir": {dir("/a")}, "white": {white("/a")}, "opaque": {opaque("/a")}}
	f0, f1, d := file("/a", "low"), file("/a", "high"), dir("/a")
	for over, want := range map[[2]string]look.Found{
		{"none", "high"}: {E: f1, Floor: 1}, {"none", "dir"}: {E: d, Floor: 1}, {"none", "opaque"}: {E: d, Floor: 1},
		{"low", "none"}: {E: f0}, {"low", "high"}: {E: f1, Floor: 1}, {"low", "dir"}: {E: d, Floor: 1}, {"low", "opaque"}: {E: d, Floor: 1},
		{"dir", "none"}: {E: d}, {"dir", "high"}: {E: f1, Floor: 1}, {"dir", "dir"}: {E: d}, {"dir", "opaque"}: {E: d, Floor: 1},
		{"white", "high"}: {E: f1, Floor: 1}, {"white", "dir"}: {E: d, Floor: 1}, {"white", "opaque"}: {E: d, Floor: 1},
		{"opaque", "none"}: {E: d}, {"opaque", "high"}: {E: f1, Floor: 1}, {"opaque", "dir"}: {E: d}, {"opaque", "opaque"}: {E: d, Floor: 1},
	} {
		lies(t, stack{layers[over[0]], layers[over[1]]}, want.E, want.Floor)
	}
	for _, over := range [][2]string{{"none", "none"}, {"none", "white"}, {"white", "none"}, {"low", "white"}, {"dir", "white"}, {"white", "white"}, {"opaque", "white"}} {
		for _, p := range []string{"/a", "/a/b"} {
			refused(t, stack{layers[over[0]], layers[over[1]]}, p, api.ErrNone)
		}
	}
}

// A Dir hides a file and a whiteout, and what lies below those.
func TestBelowDir(t *testing.T) {
	lies(t, stack{{dir("/a")}, {file("/a", "x")}, {dir("/a")}, {dir("/a")}}, dir("/a"), 2)
	lies(t, stack{{dir("/a")}, {white("/a")}, nil, {dir("/a")}, nil}, dir("/a"), 3)
	lies(t, stack{{dir("/a")}, {opaque("/a")}, nil, {dir("/a")}, nil}, dir("/a"), 1)
	lies(t, stack{{dir("/a")}, nil, nil, {dir("/a")}, nil}, dir("/a"), 0)
	lies(t, stack{{file("/a", "x")}, nil, {dir("/a")}, nil, {dir("/a")}}, dir("/a"), 2)
	for _, between := range []api.Entry{file("/a", "x"), white("/a"), opaque("/a")} {
		s := stack{{dir("/a"), file("/a/b", "0"), dir("/a/d"), file("/a/d/e", "0")}, {between}, {dir("/a"), file("/a/c", "2"), dir("/a/d"), file("/a/d/g", "2")}}
		for _, p := range []string{"/a/b", "/a/d/e", "/a/b/c"} {
			refused(t, s, p, api.ErrNone)
		}
		lies(t, s, dir("/a/d"), 2)
		lies(t, s, file("/a/c", "2"), 2)
		lies(t, s, file("/a/d/g", "2"), 2)
	}
}

// A directory's floor is its own one, never below that of the directory it lies in.
func TestFloors(t *testing.T) {
	s := stack{
		{dir("/a"), dir("/a/b"), dir("/a/b/c"), file("/a/b/c/x", "0")},
		{dir("/a"), opaque("/a/b"), dir("/a/b/c"), file("/a/b/c/y", "1")},
		{dir("/a"), dir("/a/b"), dir("/a/b/c"), file("/a/b/c/z", "2")},
		nil,
		{dir("/a"), dir("/a/b"), opaque("/a/b/d")},
		{dir("/a"), dir("/a/b"), dir("/a/b/d"), dir("/a/b/d/e")},
	}
	for p, floor := range map[string]int{"/": 0, "/a": 0, "/a/b": 1, "/a/b/c": 1, "/a/b/d": 4, "/a/b/d/e": 5} {
		lies(t, s, dir(p), floor)
	}
	lies(t, s, file("/a/b/c/y", "1"), 1)
	lies(t, s, file("/a/b/c/z", "2"), 2)
	refused(t, s, "/a/b/c/x", api.ErrNone)
	// Of a file the layer that it lies in.
	for n := range api.MaxStack + 1 {
		s := make(stack, api.MaxStack+1)
		s[n] = table{dir("/a"), file("/a/b", "x")}
		lies(t, s, file("/a/b", "x"), n)
		lies(t, s, dir("/a"), n)
	}
}

func TestDeepPaths(t *testing.T) {
	for _, e := range chain() {
		lies(t, stack{chain()}, e, 0)
		lies(t, stack{nil, chain(), nil}, e, 1)
	}
	lies(t, stack{chain(), chain(), chain()}, chain()[5], 2)
	lies(t, stack{chain(), chain(), chain()}, chain()[4], 0)
	for n := range chain() {
		for _, p := range []string{"/a/x", "/a/b/c/d/e/g", "/b", "/a/a", "/ab"} {
			refused(t, stack{chain()[:n+1]}, p, api.ErrNone)
		}
		high := chain()[:n+1]
		high[n] = white(high[n].Path)
		for _, e := range chain()[n:] {
			refused(t, stack{chain(), high}, e.Path, api.ErrNone)
		}
		high[n] = file(high[n].Path, "new")
		for _, e := range chain()[n+1:] {
			refused(t, stack{chain(), high}, e.Path, api.ErrNotDir)
		}
		lies(t, stack{chain(), high}, high[n], 1)
		high[n] = opaque(high[n].Path)
		for _, e := range chain()[n+1:] {
			refused(t, stack{chain(), high}, e.Path, api.ErrNone)
		}
		lies(t, stack{chain(), high}, dir(high[n].Path), 1)
	}
}

func TestNamesThatBeginAlike(t *testing.T) {
	s := stack{
		{dir("/a"), file("/a-", "1"), file("/a/b", "2"), file("/a0", "3"), dir("/ab"), file("/ab/b", "4"), file("/b", "5")},
		{white("/a"), file("/abc", "6"), white("/b")},
	}
	for _, e := range []api.Entry{s[0][1], s[0][3], s[0][4], s[0][5]} {
		lies(t, s, e, 0)
	}
	lies(t, s, file("/abc", "6"), 1)
	for _, p := range []string{"/a", "/a/b", "/b", "/a-b", "/a1", "/aa", "/ab/a", "/abb", "/abcd", "/b/b"} {
		refused(t, s, p, api.ErrNone)
	}
	refused(t, s, "/a-/b", api.ErrNotDir)
	refused(t, s, "/abc/b", api.ErrNotDir)
}

func TestFullLayers(t *testing.T) {
	var s stack
	for range api.MaxStack + 1 {
		s = append(s, numbered(api.MaxNodes))
	}
	for _, e := range numbered(api.MaxNodes) {
		lies(t, s, e, api.MaxStack)
		lies(t, s[:1], e, 0)
	}
	refused(t, s, numbered(api.MaxNodes + 1)[api.MaxNodes].Path, api.ErrNone)
	refused(t, s, "/0", api.ErrNone)
}

// 12.1, 12.2: the errors, in their order.

func TestOfNoStack(t *testing.T) {
	paths := []string{"/", "/a", "/q", "/q/x", "/a/b", "/x/y/z", "", "a", "/a/", "/A"}
	for _, l := range noLayers() {
		for at := range 4 {
			s := slices.Insert(stack{{file("/q", "")}, {dir("/a")}, {dir("/a"), file("/a/b", "")}}, at, l)
			for _, p := range paths {
				refused(t, s, p, api.ErrState)
			}
		}
	}
	for _, n := range []int{api.MaxStack + 2, api.MaxStack + 3, 64, 1 << 20} {
		for _, p := range paths {
			refused(t, make(stack, n), p, api.ErrState)
			refused(t, append(make(stack, n-1), table{file("/q", "")}), p, api.ErrState)
			refused(t, append(stack{{dir("/a"), file("/a/b", "")}}, make(stack, n-1)...), p, api.ErrState)
		}
	}
	// A layer that isn't asked must be right all the same.
	refused(t, stack{{{}}, {opaque("/a")}}, "/a", api.ErrState)
	refused(t, stack{{{}}, {white("/a")}}, "/a", api.ErrState)
	refused(t, stack{{{}}, {file("/a", "x")}}, "/a/b", api.ErrState)
}

func TestOfNoPath(t *testing.T) {
	for _, s := range stacks() {
		for _, p := range noPaths() {
			refused(t, s, p, api.ErrPath)
		}
	}
}

// 12.3

// node is the model's: what lies at a path, and from which layer on.
type node struct {
	e     api.Entry
	floor int
}

// model lays layers over each other, entry by entry, by chapter 10's words, and keeps from which layer on each thing is there without a break.
func model(s stack) map[string]node {
	all := map[string]node{"/": {e: root()}}
	for n, l := range s {
		for _, e := range l {
			was, is := all[e.Path]
			if e.Kind == api.Dir && is && was.e.Kind == api.Dir {
				continue
			}
			for p := range all {
				if p == e.Path || path.Under(p, e.Path) {
					delete(all, p)
				}
			}
			switch e.Kind {
			case api.File:
				all[e.Path] = node{e, n}
			case api.Dir, api.Opaque:
				all[e.Path] = node{dir(e.Path), n}
			}
		}
	}
	return all
}

// missing answers the error of a path at which the model has nothing: of the first name that goes wrong.
func missing(all map[string]node, p string) api.Errno {
	names, _ := path.Split(p)
	for n := range names {
		at, _ := path.Join(names[:n])
		if x, is := all[at]; !is {
			return api.ErrNone
		} else if x.e.Kind == api.File {
			return api.ErrNotDir
		}
	}
	return api.ErrNone
}

// asModel holds that what lies at each of the paths is what the model has there, and what the folded stack has.
func asModel(t *testing.T, s stack, paths []string) {
	t.Helper()
	all, folded := model(s), fold.Stack(s)
	for _, p := range paths {
		kind, err := tree.Kind(folded, p)
		if x, is := all[p]; is {
			lies(t, s, x.e, x.floor)
			data, _ := tree.Read(folded, p)
			if kind != x.e.Kind || data != x.e.Data {
				t.Errorf("%+v: the folded stack has a %d %q at %s, not %+v", s, kind, data, p, x.e)
			}
			continue
		}
		refused(t, s, p, missing(all, p))
		if fail.Code(err) != int(api.ErrNone) {
			t.Errorf("%+v: the folded stack has a %d at %s", s, kind, p)
		}
	}
}

// small answers all right layers that have nothing but entries of these paths, and of any kind.
func small(paths ...string) []table {
	all := []table{nil}
	for _, p := range paths {
		var next []table
		for _, l := range all {
			next = append(next, l)
			for _, e := range []api.Entry{file(p, p+string([]byte{byte('0' + len(all)%10)})), dir(p), white(p), opaque(p)} {
				if with := append(slices.Clone(l), e); layer.Right(with) {
					next = append(next, with)
				}
			}
		}
		all = next
	}
	return all
}

func TestTwoSmallLayersAsFolded(t *testing.T) {
	layers := small("/a", "/a/b", "/a/b/c", "/ab")
	if len(layers) != 145 {
		t.Fatalf("%d layers", len(layers))
	}
	paths := []string{"/", "/a", "/a/b", "/a/b/c", "/a/b/c/d", "/a/c", "/ab", "/ab/c", "/ab/c/d", "/b"}
	for _, low := range layers {
		for _, high := range layers {
			asModel(t, stack{low, high}, paths)
		}
	}
}

func TestThreeSmallLayersAsFolded(t *testing.T) {
	layers := small("/a", "/a/b", "/a/b/c")
	if len(layers) != 29 {
		t.Fatalf("%d layers", len(layers))
	}
	for _, low := range layers {
		for _, mid := range layers {
			for _, high := range layers {
				asModel(t, stack{low, mid, high}, []string{"/a", "/a/b", "/a/b/c", "/a/b/c/d"})
			}
		}
	}
}

// nearby are paths that layers at random have something at, or near.
func nearby() []string {
	return []string{
		"/a", "/a-", "/a-/b", "/a/b", "/a/b/c", "/a/b/c/d", "/a/b/c/d/e", "/a/b/c/d/e/f", "/a/b/d", "/a/c", "/ab", "/ab/c", "/b", "/b/c",
	}
}

// random answers a right layer.
func random(r *rand.Rand) table {
	kinds := []int{api.File, api.Dir, api.Dir, api.Dir, api.Dir, api.White, api.Opaque}
	var l table
	for _, p := range nearby() {
		e := api.Entry{Path: p, Kind: kinds[r.Intn(len(kinds))]}
		if e.Kind == api.File {
			e.Data = strings.Repeat("d", r.Intn(4))
		}
		if with := append(slices.Clone(l), e); r.Intn(4) > 0 && layer.Right(with) {
			l = with
		}
	}
	return l
}

func TestStacksAtRandomAsFolded(t *testing.T) {
	r := rand.New(rand.NewSource(12))
	paths := append(nearby(), "/", "/a/b/c/d/e/g", "/a-/b/c", "/ab/c/d", "/b/c/d", "/c", "/c/d", "/a/b/e", "/a/d")
	for range 3000 {
		var s stack
		for range r.Intn(api.MaxStack + 2) {
			s = append(s, random(r))
		}
		asModel(t, s, paths)
	}
}

// Memory: what is handed in isn't changed.

func TestLeavesWhatItIsHanded(t *testing.T) {
	for _, s := range append(stacks(), stack{{{}}}, stack{{dir("/b"), dir("/a")}}) {
		handed := make(stack, len(s), len(s)+1)
		wholes := make(stack, len(s))
		for i, l := range s {
			wholes[i] = append(slices.Clone(l), file("/spare", "1"), file("/room", "2"))
			handed[i] = wholes[i][:len(l)]
		}
		handed[:len(s)+1][len(s)] = table{file("/spare", "3")}
		was, _ := look.At(handed, "/a/d/e")
		for _, p := range append(nearby(), "/", "/a/d", "/a/d/e", "/h/j", "no path") {
			look.At(handed, p)
			look.Dir(handed, p)
			look.Shows(handed, p)
		}
		if now, _ := look.At(handed, "/a/d/e"); now != was {
			t.Errorf("At once more = %+v: not %+v", now, was)
		}
		for i, l := range s {
			if !slices.Equal(wholes[i], append(slices.Clone(l), file("/spare", "1"), file("/room", "2"))) || !slices.Equal(handed[i], l) {
				t.Errorf("the layer %d of %+v was left as %+v", i, few(s), few(wholes[i:i+1]))
			}
		}
		if !slices.Equal(handed[:len(s)+1][len(s)], table{file("/spare", "3")}) {
			t.Errorf("the room behind %+v was changed", few(s))
		}
	}
}
