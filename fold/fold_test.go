package fold_test

import (
	"math"
	"math/rand"
	"slices"
	"strings"
	"testing"

	"shale/api"
	"shale/fold"
	"shale/layer"
	"shale/path"
)

// mostNodes is how many entries a tree may have, by the chapter.
const mostNodes = 1024

// file, dir, white and opaque are entries of their kinds.
func file(p, data string) api.Entry { return api.Entry{Path: p, Kind: api.File, Data: data} }
func dir(p string) api.Entry        { return api.Entry{Path: p, Kind: api.Dir} }
func white(p string) api.Entry      { return api.Entry{Path: p, Kind: api.White} }
func opaque(p string) api.Entry     { return api.Entry{Path: p, Kind: api.Opaque} }

// table is a list of entries, and stack one of layers.
type (
	table = []api.Entry
	stack = []table
)

// numbered answers n files of the root, their paths rising, ahead of /g.
func numbered(n int) table {
	var l table
	for i := range n {
		l = append(l, file("/f"+string([]byte{byte('a' + i/26/26), byte('a' + i/26%26), byte('a' + i%26)}), strings.Repeat("x", i%5)))
	}
	return l
}

// chain answers a directory in a directory, as deep as they go, and a file.
func chain() table {
	return table{dir("/a"), dir("/a/b"), dir("/a/b/c"), dir("/a/b/c/d"), dir("/a/b/c/d/e"), file("/a/b/c/d/e/f", "deep")}
}

// alike answers a tree of names that begin alike: a hyphen is less than a slash, a digit and a letter are greater.
func alike() table {
	return table{
		dir("/a"), dir("/a-"), file("/a-/b", "2"), file("/a-b", "3"), file("/a/b", "1"), dir("/a/c"), file("/a/c/d", "7"),
		file("/a0", "4"), dir("/a_"), file("/a_/b", "6"), dir("/ab"), file("/ab/b", "8"),
	}
}

// trees are some.
func trees() []table {
	return []table{
		nil, {}, {file("/a", "")}, {file("/a", strings.Repeat("x", api.MaxData))}, {dir("/a")}, {dir("/a"), file("/a/b", "x")},
		{dir("/a"), dir("/a/b"), dir("/c"), file("/c/d", "y")}, alike(), chain(),
		numbered(api.MaxNodes), numbered(api.MaxNodes + 1), numbered(mostNodes - 1), numbered(mostNodes),
		append(chain(), numbered(mostNodes-6)...),
	}
}

// broken are lists that are neither trees nor layers, in one thing each.
func broken() []table {
	all := []table{
		// Entries that aren't right.
		{{}}, {{Path: "/a"}}, {dir("/")}, {dir("")}, {dir("a")}, {dir("/a/")}, {dir("/A")}, {dir("/abcdefghi")}, {file("/", "")},
		{{Path: "/a", Kind: 5}}, {{Path: "/a", Kind: -1}}, {{Path: "/a", Kind: math.MinInt}}, {{Path: "/a", Kind: math.MaxInt}},
		{{Path: "/a", Kind: api.Dir, Data: "x"}}, {file("/a", strings.Repeat("x", api.MaxData+1))},
		{dir("/a"), {Path: "/b"}}, {dir("/"), dir("/a")}, {dir("/a"), {}, dir("/b")},
		append(chain()[:5], dir("/a/b/c/d/e/f"), dir("/a/b/c/d/e/f/g")),
		// Paths that don't rise.
		{dir("/a"), dir("/a")}, {file("/a", "x"), file("/a", "y")}, {dir("/b"), dir("/a")}, {dir("/a"), dir("/c"), dir("/b")},
		{file("/a/b", ""), dir("/a")}, {dir("/a"), file("/a/b", ""), dir("/a-")}, {dir("/ab"), dir("/a")},
		// Entries without their directory, or with one that is none.
		{file("/a/b", "")}, {dir("/a"), file("/a/b/c", "")}, {dir("/a"), file("/b/c", "")}, {dir("/a"), file("/ab/c", "")}, {dir("/a-"), file("/a/b", "")},
		chain()[1:], append(chain()[:2:2], chain()[3:]...), {file("/a", ""), file("/a/b", "")}, {dir("/a"), file("/a/b", ""), file("/a/b/c", "")},
		// Too many.
		numbered(mostNodes + 1), append(chain(), numbered(mostNodes-5)...),
	}
	huge := make(table, 1<<20)
	for i := range huge {
		huge[i] = dir("/a")
	}
	return append(all, make(table, 1), make(table, mostNodes), huge)
}

// noTrees are lists that are no trees.
func noTrees() []table {
	return append(broken(), table{white("/a")}, table{opaque("/a")}, table{dir("/a"), white("/b")},
		table{opaque("/a"), file("/a/b", "")}, table{dir("/a"), opaque("/a/b")}, table{dir("/a"), white("/a/b")})
}

// noLayers are lists that are no right layers.
func noLayers() []table {
	return append(broken(), table{{Path: "/a", Kind: api.White, Data: "x"}}, table{{Path: "/a", Kind: api.Opaque, Data: "x"}},
		table{white("/a"), white("/a/b")}, table{white("/a"), file("/a/b", "")},
		// Nothing that lies in a tree stands for a directory of the layer.
		table{file("/a/x", "")}, table{white("/a/b")}, table{dir("/a/b"), white("/a/b/c")},
		numbered(api.MaxNodes+1), append(numbered(api.MaxNodes), white("/g")))
}

// model lays a layer over a tree by the chapter's words, entry by entry.
func model(tree, l table) table {
	for _, e := range l {
		var next table
		for _, x := range tree {
			at, under := x.Path == e.Path, path.Under(x.Path, e.Path)
			switch e.Kind {
			case api.White, api.File, api.Opaque:
				if at || under {
					continue
				}
			case api.Dir:
				if at {
					continue
				}
			}
			next = append(next, x)
		}
		switch e.Kind {
		case api.File:
			next = append(next, e)
		case api.Dir, api.Opaque:
			next = append(next, dir(e.Path))
		}
		tree = next
	}
	tree = slices.Clone(tree)
	slices.SortFunc(tree, func(a, b api.Entry) int { return strings.Compare(a.Path, b.Path) })
	return tree
}

// same holds that a list is the one that is asked for.
func same(t *testing.T, what string, got, want table) {
	t.Helper()
	if !slices.Equal(got, want) {
		t.Errorf("%s = %d entries, %+v: not %d, %+v", what, len(got), few(got), len(want), few(want))
	}
}

// few is a list, cut so that it can be told.
func few(l table) table {
	return l[:min(len(l), 12)]
}

// roomy answers l with spare room behind it, and the whole of that, to be held later on.
func roomy(l table) (table, table) {
	whole := append(slices.Clone(l), file("/spare", "1"), file("/room", "2"), file("/here", "3"))
	return whole[:len(l)], whole
}

// untouched holds that a call changed nothing of what it was handed, spare room included.
func untouched(t *testing.T, what string, whole, l table) {
	t.Helper()
	same(t, what+" left", whole, append(slices.Clone(l), file("/spare", "1"), file("/room", "2"), file("/here", "3")))
}

// spoil fills a list with others, spare room included.
func spoil(l table) {
	l = l[:cap(l)]
	for i := range l {
		l[i] = api.Entry{Path: "spoilt", Kind: -7, Data: "spoilt"}
	}
}

// small answers all right layers that have nothing but these kinds at /a, /a/b, /a/b/c and /ab.
func small(kinds ...int) []table {
	all := []table{nil}
	for _, p := range []string{"/a", "/a/b", "/a/b/c", "/ab"} {
		var next []table
		for _, l := range all {
			next = append(next, l)
			for _, kind := range kinds {
				e := api.Entry{Path: p, Kind: kind}
				if kind == api.File {
					e.Data = p + " of " + string([]byte{byte('0' + len(all)%10)})
				}
				if with := append(slices.Clone(l), e); layer.Right(with) {
					next = append(next, with)
				}
			}
		}
		all = next
	}
	return all
}

// random answers a right layer.
func random(r *rand.Rand, kinds ...int) table {
	var l table
	for _, p := range []string{"/a", "/a-", "/a-/b", "/a/b", "/a/b/c", "/a/b/c/d", "/a/b/c/d/e", "/a/b/c/d/e/f", "/a/b/d", "/a/c", "/ab", "/ab/c", "/b", "/b/c"} {
		e := api.Entry{Path: p, Kind: kinds[r.Intn(len(kinds))]}
		if e.Kind == api.File {
			e.Data = strings.Repeat("d", r.Intn(4))
		}
		if with := append(slices.Clone(l), e); r.Intn(4) > 0 && layer.Right(with) {
			l = with
		}
	}
	return l
}

// 10.1: Tree.

func TestTree(t *testing.T) {
	for i, l := range trees() {
		handed, whole := roomy(l)
		if !fold.Tree(handed) {
			t.Errorf("Tree of the tree %d is false", i)
		}
		untouched(t, "Tree", whole, l)
	}
}

func TestTreeOfOthers(t *testing.T) {
	for i, l := range noTrees() {
		if fold.Tree(l) {
			t.Errorf("Tree of the list %d is true: %+v", i, few(l))
		}
	}
}

func TestTreeOfEachKind(t *testing.T) {
	for _, p := range []string{"/a", "/b", "/b/c"} {
		for kind := -3; kind < 300; kind++ {
			l := table{dir("/b")}
			if p < "/b" {
				l = slices.Insert(l, 0, api.Entry{Path: p, Kind: kind})
			} else if p == "/b" {
				l[0].Kind = kind
			} else {
				l = append(l, api.Entry{Path: p, Kind: kind})
			}
			if want := kind == api.File || kind == api.Dir; fold.Tree(l) != want {
				t.Errorf("Tree with the kind %d at %s isn't %v", kind, p, want)
			}
		}
	}
}

func TestTreeIsLayerOfFilesAndDirs(t *testing.T) {
	for _, l := range small(api.File, api.Dir, api.White, api.Opaque) {
		want := !slices.ContainsFunc(l, func(e api.Entry) bool { return e.Kind == api.White || e.Kind == api.Opaque })
		if fold.Tree(l) != want {
			t.Errorf("Tree(%+v) isn't %v", l, want)
		}
	}
}

// 10.1: Over, written out.

func TestOverExample(t *testing.T) {
	same(t, "Over", fold.Over(table{dir("/a"), file("/a/b", "x")}, table{opaque("/a")}), table{dir("/a")})
}

func TestOverEachKind(t *testing.T) {
	low := table{dir("/a"), file("/a/b", "1"), dir("/a/c"), file("/a/c/d", "2"), dir("/e"), file("/f", "3")}
	over := func(l table, want ...api.Entry) {
		t.Helper()
		same(t, "Over", fold.Over(low, l), want)
	}
	over(nil, low...)
	// A whiteout: of a full directory, an empty one, a file, nothing.
	over(table{white("/a")}, dir("/e"), file("/f", "3"))
	over(table{white("/e")}, dir("/a"), file("/a/b", "1"), dir("/a/c"), file("/a/c/d", "2"), file("/f", "3"))
	over(table{white("/f")}, dir("/a"), file("/a/b", "1"), dir("/a/c"), file("/a/c/d", "2"), dir("/e"))
	over(table{white("/g")}, low...)
	// A file, likewise.
	over(table{file("/a", "n")}, file("/a", "n"), dir("/e"), file("/f", "3"))
	over(table{file("/e", "")}, dir("/a"), file("/a/b", "1"), dir("/a/c"), file("/a/c/d", "2"), file("/e", ""), file("/f", "3"))
	over(table{file("/f", "")}, dir("/a"), file("/a/b", "1"), dir("/a/c"), file("/a/c/d", "2"), dir("/e"), file("/f", ""))
	over(table{file("/b", "n")}, dir("/a"), file("/a/b", "1"), dir("/a/c"), file("/a/c/d", "2"), file("/b", "n"), dir("/e"), file("/f", "3"))
	// An opaque one, likewise.
	over(table{opaque("/a")}, dir("/a"), dir("/e"), file("/f", "3"))
	over(table{opaque("/e")}, low...)
	over(table{opaque("/f")}, dir("/a"), file("/a/b", "1"), dir("/a/c"), file("/a/c/d", "2"), dir("/e"), dir("/f"))
	over(table{opaque("/0")}, append(table{dir("/0")}, low...)...)
	// A Dir, likewise: what lies under it stays.
	over(table{dir("/a")}, low...)
	over(table{dir("/e")}, low...)
	over(table{dir("/f")}, dir("/a"), file("/a/b", "1"), dir("/a/c"), file("/a/c/d", "2"), dir("/e"), dir("/f"))
	over(table{dir("/g")}, append(slices.Clone(low), dir("/g"))...)
}

func TestOverInDirectories(t *testing.T) {
	low := table{dir("/a"), file("/a/b", "1"), dir("/a/c"), file("/a/c/d", "2"), file("/f", "3")}
	over := func(l table, want ...api.Entry) {
		t.Helper()
		same(t, "Over", fold.Over(low, l), want)
	}
	over(table{dir("/a"), white("/a/b")}, dir("/a"), dir("/a/c"), file("/a/c/d", "2"), file("/f", "3"))
	over(table{dir("/a"), white("/a/c")}, dir("/a"), file("/a/b", "1"), file("/f", "3"))
	over(table{dir("/a"), opaque("/a/c"), file("/a/c/x", "n")}, dir("/a"), file("/a/b", "1"), dir("/a/c"), file("/a/c/x", "n"), file("/f", "3"))
	over(table{dir("/a"), dir("/a/c"), white("/a/c/d")}, dir("/a"), file("/a/b", "1"), dir("/a/c"), file("/f", "3"))
	over(table{dir("/a"), dir("/a/c"), file("/a/c/d", "n")}, dir("/a"), file("/a/b", "1"), dir("/a/c"), file("/a/c/d", "n"), file("/f", "3"))
	// What an opaque directory lets nothing through to stays so for the Dirs in it.
	over(table{opaque("/a"), dir("/a/c")}, dir("/a"), dir("/a/c"), file("/f", "3"))
	over(table{opaque("/a"), dir("/a/c"), white("/a/c/d"), file("/a/x", "")}, dir("/a"), dir("/a/c"), file("/a/x", ""), file("/f", "3"))
	// A file gives way to a directory, and to what is in it.
	over(table{dir("/f"), dir("/f/g"), file("/f/g/h", "n"), white("/f/i")}, dir("/a"), file("/a/b", "1"), dir("/a/c"), file("/a/c/d", "2"), dir("/f"), dir("/f/g"), file("/f/g/h", "n"))
	over(table{white("/a"), white("/f")})
}

func TestOverOfNamesThatBeginAlike(t *testing.T) {
	tree := alike()
	over := func(l table, goes ...string) {
		t.Helper()
		want := slices.DeleteFunc(alike(), func(e api.Entry) bool { return slices.Contains(goes, e.Path) })
		same(t, "Over", fold.Over(tree, l), want)
	}
	over(table{white("/a")}, "/a", "/a/b", "/a/c", "/a/c/d")
	over(table{white("/a-")}, "/a-", "/a-/b")
	over(table{white("/a_")}, "/a_", "/a_/b")
	over(table{white("/ab")}, "/ab", "/ab/b")
	over(table{white("/a0")}, "/a0")
	over(table{white("/a-b")}, "/a-b")
	over(table{opaque("/a")}, "/a/b", "/a/c", "/a/c/d")
	over(table{opaque("/ab")}, "/ab/b")
	over(table{dir("/a"), opaque("/a/c")}, "/a/c/d")
	over(table{white("/b")})
	// New ones stand in their order.
	same(t, "Over", fold.Over(table{dir("/a"), file("/a/b", "1"), file("/a0", "2")}, table{dir("/a"), file("/a-", "3"), file("/a/a", "4"), file("/a/c", "5"), file("/a_", "6")}),
		table{dir("/a"), file("/a-", "3"), file("/a/a", "4"), file("/a/b", "1"), file("/a/c", "5"), file("/a0", "2"), file("/a_", "6")})
}

func TestOverOfDeepPaths(t *testing.T) {
	for n := range chain() {
		for _, kind := range []int{api.White, api.File, api.Opaque, api.Dir} {
			l := chain()[:n+1]
			l[n].Kind, l[n].Data = kind, ""
			want := chain()
			if kind != api.Dir {
				want = want[:n+1]
			}
			want[n].Kind, want[n].Data = kind, ""
			if kind == api.White {
				want = want[:n]
			} else if kind == api.Opaque {
				want[n].Kind = api.Dir
			}
			same(t, "Over", fold.Over(chain(), l), want)
		}
	}
}

func TestOverEntryByEntry(t *testing.T) {
	layers := small(api.File, api.Dir, api.White, api.Opaque)
	all := small(api.File, api.Dir)
	if len(layers) != 145 || len(all) != 21 {
		t.Fatalf("%d layers, %d trees", len(layers), len(all))
	}
	for _, tree := range all {
		for _, l := range layers {
			got := fold.Over(tree, l)
			if want := model(tree, l); !slices.Equal(got, want) {
				t.Errorf("Over(%+v, %+v) = %+v: not %+v", tree, l, got, want)
			}
		}
	}
}

// 10.1: Over, of what there is nothing of.

func TestOverOfNoTree(t *testing.T) {
	for i, tree := range noTrees() {
		for _, l := range []table{nil, {white("/a")}, {opaque("/b")}, {file("/x", "")}, {dir("/a"), white("/a/b")}} {
			if got := fold.Over(tree, l); len(got) != 0 {
				t.Errorf("Over the list %d = %+v", i, few(got))
			}
		}
	}
}

func TestOverOfNoLayer(t *testing.T) {
	for i, l := range noLayers() {
		for _, tree := range []table{nil, {dir("/a"), file("/a/b", "")}, {dir("/x")}, chain()} {
			if got := fold.Over(tree, l); len(got) != 0 {
				t.Errorf("Over of the list %d = %+v", i, few(got))
			}
		}
	}
}

func TestOverOfManyEntries(t *testing.T) {
	over := func(tree, l, want table) {
		t.Helper()
		same(t, "Over", fold.Over(tree, l), want)
	}
	all := numbered(mostNodes)
	over(all, nil, all)
	over(all[:mostNodes-1], table{file("/g", "")}, append(numbered(mostNodes-1), file("/g", "")))
	over(all[:mostNodes-2], table{dir("/g"), file("/g/h", "")}, append(numbered(mostNodes-2), dir("/g"), file("/g/h", "")))
	over(all[:mostNodes-api.MaxNodes], all[mostNodes-api.MaxNodes:], all)
	// One more.
	over(all, table{file("/g", "")}, nil)
	over(all, table{dir("/g")}, nil)
	over(all, table{opaque("/g")}, nil)
	over(all[:mostNodes-1], table{dir("/g"), file("/g/h", "")}, nil)
	over(all[:mostNodes-api.MaxNodes+1], renamed(numbered(api.MaxNodes)), nil)
	// As many as there were, or fewer.
	over(all, table{white("/g")}, all)
	over(all, table{dir(all[0].Path)}, append(table{dir(all[0].Path)}, all[1:]...))
	over(all, table{white(all[0].Path)}, all[1:])
	// What comes counts, whatever was there on the way.
	over(all, table{file("/e", ""), white(all[0].Path)}, append(table{file("/e", "")}, all[1:]...))
	over(all, table{white(all[0].Path), file("/g", "")}, append(slices.Clone(all[1:]), file("/g", "")))
	over(all, table{file("/e", ""), white(all[0].Path), file("/g", "")}, nil)
}

// renamed answers a list of the root's with other paths.
func renamed(l table) table {
	for i := range l {
		l[i].Path = "/g" + l[i].Path[2:]
	}
	return l
}

func TestOverGivesNewMemory(t *testing.T) {
	layers := []table{nil, {white("/a")}, {opaque("/a"), file("/a/x", "n")}, {dir("/a")}, {file("/zz", "")}, {white("/zz")}, {}, {{}}}
	for _, tree := range trees() {
		for _, l := range layers {
			low, lows := roomy(tree)
			high, highs := roomy(l)
			first := fold.Over(low, high)
			want := slices.Clone(first)
			spoil(first)
			untouched(t, "Over", lows, tree)
			untouched(t, "Over", highs, l)
			second := fold.Over(low, high)
			same(t, "Over once more", second, want)
			spoil(lows)
			spoil(highs)
			same(t, "Over, behind a change to what it was handed,", second, want)
		}
	}
	// One list for both.
	l, whole := roomy(alike())
	got := fold.Over(l, l)
	spoil(got[len(got):])
	same(t, "Over of a tree over itself", got, alike())
	spoil(got)
	untouched(t, "Over", whole, alike())
}

// 10.1: Stack.

func TestStack(t *testing.T) {
	show := func(s stack, want ...api.Entry) {
		t.Helper()
		same(t, "Stack", fold.Stack(s), want)
	}
	show(nil)
	show(stack{})
	show(stack{nil})
	show(make(stack, api.MaxStack+1))
	show(stack{alike()}, alike()...)
	show(stack{nil, alike(), nil}, alike()...)
	// Over nothing whiteouts hide nothing, and opaque ones are directories.
	show(stack{{white("/a"), opaque("/b"), white("/b/c"), file("/b/d", "x")}}, dir("/b"), file("/b/d", "x"))
	// The lowest one first.
	show(stack{{file("/a", "1")}, {file("/a", "2")}, {file("/a", "3")}}, file("/a", "3"))
	show(stack{{file("/a", "1")}, {white("/a")}})
	show(stack{{white("/a")}, {file("/a", "1")}}, file("/a", "1"))
	show(stack{{dir("/a"), file("/a/b", "1")}, {white("/a")}, {dir("/a"), file("/a/c", "2")}}, dir("/a"), file("/a/c", "2"))
	show(stack{{dir("/a"), file("/a/b", "1")}, {opaque("/a")}, {dir("/a"), file("/a/c", "2")}}, dir("/a"), file("/a/c", "2"))
	show(stack{{dir("/a"), file("/a/b", "1")}, {file("/a", "2")}, {dir("/a"), file("/a/c", "3")}}, dir("/a"), file("/a/c", "3"))
	show(stack{{dir("/a"), file("/a/b", "1")}, {dir("/a")}, {dir("/a"), file("/a/c", "2")}}, dir("/a"), file("/a/b", "1"), file("/a/c", "2"))
	show(stack{{opaque("/a"), file("/a/b", "1")}, {dir("/a"), white("/a/b")}}, dir("/a"))
}

func TestStackOfOthers(t *testing.T) {
	for i, l := range noLayers() {
		for at := range 4 {
			s := stack{{file("/q", "")}, {dir("/a")}, {dir("/a"), file("/a/b", "")}}
			if got := fold.Stack(slices.Insert(s, at, l)); len(got) != 0 {
				t.Errorf("Stack with the list %d at %d = %+v", i, at, few(got))
			}
		}
		if got := fold.Stack(stack{l}); len(got) != 0 {
			t.Errorf("Stack of the list %d = %+v", i, few(got))
		}
	}
}

func TestStackOfEachHeight(t *testing.T) {
	for n := range 2 * api.MaxStack {
		var s stack
		var want table
		for i := range n {
			l := table{file("/a"+string([]byte{byte('a' + i)}), "")}
			s, want = append(s, l), append(want, l...)
		}
		if n > 9 {
			want = nil
		}
		same(t, "Stack", fold.Stack(s), want)
	}
	same(t, "Stack of nothing, ten times", fold.Stack(append(make(stack, 9), table{file("/a", "")})), nil)
	same(t, "Stack of one and nothing", fold.Stack(append(stack{{file("/a", "")}}, make(stack, 9)...)), nil)
	same(t, "Stack of very many", fold.Stack(append(stack{{file("/a", "")}}, make(stack, 1<<20)...)), nil)
}

func TestStackOfFullLayers(t *testing.T) {
	var s stack
	var want table
	for i := range api.MaxStack + 1 {
		l := numbered(api.MaxNodes)
		for k := range l {
			l[k].Path = "/" + string([]byte{byte('a' + i)}) + l[k].Path[1:]
		}
		s, want = append(s, l), append(want, l...)
	}
	same(t, "Stack", fold.Stack(s), want)
}

func TestStackIsLayersOverNothing(t *testing.T) {
	layers := small(api.File, api.Dir, api.White, api.Opaque)
	for _, low := range layers {
		for _, high := range layers {
			got := fold.Stack(stack{low, high})
			if want := model(model(nil, low), high); !slices.Equal(got, want) {
				t.Errorf("Stack of %+v and %+v = %+v: not %+v", low, high, got, want)
			}
		}
	}
	r := rand.New(rand.NewSource(10))
	for range 2000 {
		var s stack
		var want, over table
		for range r.Intn(api.MaxStack + 2) {
			l := random(r, api.File, api.Dir, api.Dir, api.Dir, api.Dir, api.White, api.Opaque)
			s = append(s, l)
			want, over = model(want, l), fold.Over(over, l)
		}
		got := fold.Stack(s)
		if !slices.Equal(got, want) || !slices.Equal(got, over) {
			t.Fatalf("Stack of %+v = %+v: not %+v", s, got, want)
		}
	}
}

func TestStackGivesNewMemory(t *testing.T) {
	for _, x := range []stack{{alike()}, {nil, alike()}, {alike(), {white("/a")}}, {alike(), nil}, {alike(), {dir("/a")}, {dir("/zz")}}, {{white("/a")}}} {
		handed := make(stack, len(x)+1)
		wholes := make(stack, len(x))
		for i, l := range x {
			handed[i], wholes[i] = roomy(l)
		}
		handed[len(x)] = table{file("/spare", "")}
		first := fold.Stack(handed[:len(x)])
		want := slices.Clone(first)
		spoil(first)
		for i, l := range x {
			untouched(t, "Stack", wholes[i], l)
			same(t, "the layer, left by Stack,", handed[i], l)
		}
		same(t, "the room behind, left by Stack,", handed[len(x)], table{file("/spare", "")})
		second := fold.Stack(handed[:len(x)])
		same(t, "Stack once more", second, want)
		for _, whole := range wholes {
			spoil(whole)
		}
		same(t, "Stack, behind a change to what it was handed,", second, want)
	}
}

// 10.2

func TestWhatComesIsTree(t *testing.T) {
	layers := small(api.File, api.Dir, api.White, api.Opaque)
	for _, low := range layers {
		for _, high := range layers {
			if got := fold.Stack(stack{low, high}); !fold.Tree(got) {
				t.Errorf("Stack of %+v and %+v is no tree: %+v", low, high, got)
			}
		}
	}
	for _, tree := range trees() {
		for _, l := range append(layers, alike(), chain(), numbered(api.MaxNodes)) {
			if got := fold.Over(tree, l); !fold.Tree(got) {
				t.Errorf("Over(%+v, %+v) is no tree: %+v", few(tree), few(l), few(got))
			}
		}
	}
	for _, l := range noLayers() {
		if !fold.Tree(fold.Over(nil, l)) || !fold.Tree(fold.Stack(stack{l})) {
			t.Errorf("nothing is no tree")
		}
	}
}

func TestOverNothingIsItself(t *testing.T) {
	all := append(small(api.File, api.Dir), alike(), chain(), numbered(api.MaxNodes))
	r := rand.New(rand.NewSource(11))
	for range 2000 {
		all = append(all, random(r, api.File, api.Dir, api.Dir))
	}
	for _, l := range all {
		same(t, "Over nothing", fold.Over(nil, l), l)
		same(t, "Stack of one", fold.Stack(stack{l}), l)
	}
}

func TestTwiceIsOnce(t *testing.T) {
	layers := small(api.File, api.Dir, api.White, api.Opaque)
	for _, tree := range append(small(api.File, api.Dir), trees()...) {
		for _, l := range layers {
			// Of more entries than may be nothing came.
			if len(tree)+len(l) <= mostNodes {
				once := fold.Over(tree, l)
				same(t, "Over twice", fold.Over(once, l), once)
			}
		}
	}
	r := rand.New(rand.NewSource(12))
	for range 3000 {
		l := random(r, api.File, api.Dir, api.Dir, api.Dir, api.White, api.Opaque)
		low := random(r, api.File, api.Dir, api.Dir, api.Dir, api.White, api.Opaque)
		same(t, "Stack of one twice", fold.Stack(stack{low, l, l}), fold.Stack(stack{low, l}))
	}
}
