package merge_test

import (
	"math"
	"math/rand"
	"slices"
	"strings"
	"testing"

	"shale/api"
	"shale/fail"
	"shale/fold"
	"shale/layer"
	"shale/look"
	"shale/merge"
)

// file, dir, white and opaque are entries of their kinds.
func file(p, data string) api.Entry { return api.Entry{Path: p, Kind: api.File, Data: data} }
func dir(p string) api.Entry        { return api.Entry{Path: p, Kind: api.Dir} }
func white(p string) api.Entry      { return api.Entry{Path: p, Kind: api.White} }
func opaque(p string) api.Entry     { return api.Entry{Path: p, Kind: api.Opaque} }

// table is a list of entries, and stack one of layers.
type (
	table = []api.Entry
	stack = []table
)

// filled answers n files in the root, whose names begin with that letter.
func filled(first byte, n int) table {
	var l table
	for i := range n {
		l = append(l, file("/"+string([]byte{first, byte('a' + i/26), byte('a' + i%26)}), strings.Repeat("x", i%5)))
	}
	return l
}

// whites answers whiteouts where filled has files.
func whites(first byte, n int) table {
	l := filled(first, n)
	for i, e := range l {
		l[i] = white(e.Path)
	}
	return l
}

// full answers a directory, and n files in it.
func full(p string, n int) table {
	l := table{dir(p)}
	for _, e := range filled('f', n) {
		l = append(l, file(p+e.Path, e.Data))
	}
	return l
}

// few is a table, cut so that it can be told.
func few(l table) table { return l[:min(len(l), 12)] }

// roomy answers a list with two entries in the room behind it, and the whole of both.
func roomy(l table) (table, table) {
	whole := append(slices.Clone(l), file("/spare", "1"), file("/room", "2"))
	return whole[:len(l)], whole
}

// untouched holds that a call changed nothing of what it was handed, spare room included.
func untouched(t *testing.T, what string, whole, l table) {
	t.Helper()
	if !slices.Equal(whole, append(slices.Clone(l), file("/spare", "1"), file("/room", "2"))) {
		t.Errorf("%s changed what it was handed: %+v", what, few(whole))
	}
}

// spoil overwrites a list, spare room included.
func spoil(l table) {
	l = l[:cap(l)]
	for i := range l {
		l[i] = api.Entry{Path: "spoilt", Kind: -7, Data: "spoilt"}
	}
}

// lays holds what comes of an entry that is laid over others, and of nothing but that.
func lays(t *testing.T, l table, e api.Entry, want ...api.Entry) {
	t.Helper()
	handed, whole := roomy(l)
	if got := merge.One(handed, e); !slices.Equal(got, want) {
		t.Errorf("One(%+v, %+v) = %+v: not %+v", few(l), e, few(got), few(want))
	}
	untouched(t, "One", whole, l)
}

// sinks holds what others are at the bottom.
func sinks(t *testing.T, l table, want ...api.Entry) {
	t.Helper()
	handed, whole := roomy(l)
	if got := merge.Bottom(handed); !slices.Equal(got, want) {
		t.Errorf("Bottom(%+v) = %+v: not %+v", few(l), few(got), few(want))
	}
	untouched(t, "Bottom", whole, l)
}

// makes holds what comes of two layers.
func makes(t *testing.T, low, high table, bottom bool, want ...api.Entry) {
	t.Helper()
	first, wholeFirst := roomy(low)
	second, wholeSecond := roomy(high)
	if got, err := merge.Two(first, second, bottom); err != nil || !slices.Equal(got, want) {
		t.Errorf("Two(%+v, %+v, %v) = %+v, %v: not %+v", few(low), few(high), bottom, few(got), err, few(want))
	}
	untouched(t, "Two", wholeFirst, low)
	untouched(t, "Two", wholeSecond, high)
}

// refused holds that two layers are, with nothing beside the error.
func refused(t *testing.T, low, high table, bottom bool, code api.Errno) {
	t.Helper()
	if got, err := merge.Two(low, high, bottom); len(got) > 0 || fail.Code(err) != int(code) {
		t.Errorf("Two(%+v, %+v, %v) = %+v, %v: not %d", few(low), few(high), bottom, few(got), err, code)
	}
}

// 15.1: One.

// TestOneOfEachKind lays each kind over each.
func TestOneOfEachKind(t *testing.T) {
	for _, e := range []api.Entry{file("/m", "new"), dir("/m"), white("/m"), opaque("/m")} {
		lays(t, nil, e, e)
		lays(t, table{}, e, e)
	}
	for _, x := range []api.Entry{file("/m", "old"), dir("/m"), white("/m"), opaque("/m")} {
		for _, e := range []api.Entry{file("/m", "new"), file("/m", ""), white("/m"), opaque("/m")} {
			lays(t, table{x}, e, e)
			lays(t, table{file("/a", "1"), x, dir("/z")}, e, file("/a", "1"), e, dir("/z"))
		}
	}
	for x, want := range map[api.Entry]api.Entry{
		file("/m", "old"): opaque("/m"), file("/m", ""): opaque("/m"), white("/m"): opaque("/m"), dir("/m"): dir("/m"), opaque("/m"): opaque("/m"),
	} {
		lays(t, table{x}, dir("/m"), want)
		lays(t, table{white("/a"), x, opaque("/z")}, dir("/m"), white("/a"), want, opaque("/z"))
	}
}

// TestOneOverDirectories holds that what lies under a path goes, of a Dir alone not, and what only begins alike stays.
func TestOneOverDirectories(t *testing.T) {
	for _, at := range []api.Entry{dir("/m"), opaque("/m")} {
		l := table{
			dir("/a"), file("/a/m", "1"), at, dir("/m-"), file("/m-/b", "2"), white("/m-a"), file("/m/b", "3"), opaque("/m/c"), white("/m/c/d"),
			dir("/m/e"), file("/m/e/f", "4"), file("/m0", "5"), dir("/m_"), white("/m_/b"), dir("/mm"), file("/mm/m", "6"), white("/z"),
		}
		for _, e := range []api.Entry{file("/m", "new"), white("/m"), opaque("/m")} {
			lays(t, l, e,
				dir("/a"), file("/a/m", "1"), e, dir("/m-"), file("/m-/b", "2"), white("/m-a"),
				file("/m0", "5"), dir("/m_"), white("/m_/b"), dir("/mm"), file("/mm/m", "6"), white("/z"))
		}
		lays(t, l, dir("/m"), l...)
	}
}

// TestOneInDirectories lays below the root, and deep.
func TestOneInDirectories(t *testing.T) {
	l := table{dir("/a"), dir("/a/b"), opaque("/a/b/c"), dir("/a/b/c/d"), dir("/a/b/c/d/e"), white("/a/b/c/d/e/f"), file("/a/b/g", "g"), file("/a/h", "h"), file("/b", "b")}
	lays(t, l, dir("/a/b/c/d/e/f"), append(slices.Clone(l[:5]), append(table{opaque("/a/b/c/d/e/f")}, l[6:]...)...)...)
	lays(t, l, file("/a/b/c/d/e/f", "f"), append(slices.Clone(l[:5]), append(table{file("/a/b/c/d/e/f", "f")}, l[6:]...)...)...)
	lays(t, l, white("/a/b/c/d/e"), append(slices.Clone(l[:4]), append(table{white("/a/b/c/d/e")}, l[6:]...)...)...)
	lays(t, l, opaque("/a/b"), dir("/a"), opaque("/a/b"), file("/a/h", "h"), file("/b", "b"))
	lays(t, l, file("/a/b", ""), dir("/a"), file("/a/b", ""), file("/a/h", "h"), file("/b", "b"))
	lays(t, l, white("/a"), white("/a"), file("/b", "b"))
	lays(t, l, dir("/a/b/g"), append(slices.Clone(l[:6]), opaque("/a/b/g"), file("/a/h", "h"), file("/b", "b"))...)
	lays(t, l, white("/a/b/gg"), append(slices.Clone(l[:7]), white("/a/b/gg"), file("/a/h", "h"), file("/b", "b"))...)
	for _, e := range l {
		if e.Kind == api.Dir {
			lays(t, l, e, l...)
		}
	}
}

// TestOneNew holds where an entry stands that is new: by its path's bytes, whatever its kind.
func TestOneNew(t *testing.T) {
	l := table{dir("/b"), white("/b-"), file("/b/d", ""), opaque("/bb"), file("/d", "")}
	for at, paths := range [][]string{
		{"", "/", "/-", "/0", "/a", "/ab"}, {}, {"/b-0", "/b-a", "/b/a", "/b/c"}, {"/b/e", "/b0", "/b_", "/ba"}, {"/bc", "/c", "/c-"}, {"/d-", "/d/e", "/e", "/zz"},
	} {
		for _, p := range paths {
			for _, e := range []api.Entry{file(p, "new"), dir(p), white(p), opaque(p)} {
				// All that there is lies under the root, and goes.
				if p == "/" && e.Kind != api.Dir {
					lays(t, l, e, e)
					continue
				}
				lays(t, l, e, slices.Insert(slices.Clone(l), at, e)...)
			}
		}
	}
}

// TestOneOfOtherLists holds that the others' order is kept, and that each place counts, whatever the list is.
func TestOneOfOtherLists(t *testing.T) {
	l := table{file("/d", "1"), file("/b", "2"), file("/e", "3"), file("/a", "4")}
	for _, kind := range []int{api.File, api.Dir, api.White, api.Opaque} {
		e := api.Entry{Path: "/c", Kind: kind}
		lays(t, l, e, e, l[0], l[1], l[2], l[3])
		e.Path = "/dd"
		lays(t, l, e, l[0], l[1], e, l[2], l[3])
		e.Path = "/f"
		lays(t, l, e, l[0], l[1], l[2], l[3], e)
	}
	lays(t, l, dir("/e"), l[0], l[1], opaque("/e"), l[3])
	lays(t, l, white("/d"), l[1], white("/d"), l[2], l[3])
	lays(t, l, opaque("/a"), opaque("/a"), l[0], l[1], l[2])
	// Under a file, ahead of it, and twice.
	odd := table{file("/a/b", "1"), white("/c"), file("/a", "2"), dir("/a/b"), file("/a", "3"), opaque("/a/b/c"), dir("/a")}
	lays(t, odd, file("/a", "new"), file("/a", "new"), white("/c"))
	lays(t, odd, white("/a/b"), white("/a/b"), white("/c"), odd[2], odd[4], odd[6])
	lays(t, odd, dir("/a"), odd[0], odd[1], opaque("/a"), odd[3], opaque("/a"), odd[5], odd[6])
	lays(t, odd, dir("/a/b"), opaque("/a/b"), odd[1], odd[2], odd[3], odd[4], odd[5], odd[6])
	// More than a layer may have.
	many := filled('f', 2*api.MaxNodes)
	lays(t, many, dir("/a"), append(table{dir("/a")}, many...)...)
	lays(t, many, white("/z"), append(slices.Clone(many), white("/z"))...)
}

// TestOneOfOtherEntries lays what isn't right: by its kind, if it has one; else nothing is laid.
func TestOneOfOtherEntries(t *testing.T) {
	l := table{dir("/b"), file("/b/c", "c"), white("/d")}
	for _, kind := range []int{0, -1, 5, 6, 256 + api.File, 1 << 32, math.MinInt, math.MaxInt} {
		for _, p := range []string{"", "/", "/a", "/b", "/b/c", "/d", "/z"} {
			lays(t, l, api.Entry{Path: p, Kind: kind}, l...)
		}
		lays(t, nil, api.Entry{Path: "/a", Kind: kind})
		odd := table{{Path: "/b", Kind: kind, Data: "x"}, {Path: "/b/c", Kind: kind}, {Path: "/c", Kind: kind}}
		lays(t, odd, dir("/b"), odd...)
		lays(t, odd, file("/b", ""), file("/b", ""), odd[2])
	}
	for _, p := range []string{"", "b", "/b/", "//", "/B", "/b//c", "/\xff", strings.Repeat("/b", 1<<12), strings.Repeat("x", 1<<12)} {
		for _, kind := range []int{api.File, api.Dir, api.White, api.Opaque} {
			e := api.Entry{Path: p, Kind: kind}
			at, _ := slices.BinarySearchFunc(l, e, func(a, b api.Entry) int { return strings.Compare(a.Path, b.Path) })
			want := slices.Insert(slices.Clone(l), at, e)
			lays(t, l, e, want...)
			if kind != api.Dir {
				lays(t, want, e, want...)
			}
		}
	}
	lays(t, l, white("/"), white("/"))
	lays(t, l, dir("/"), dir("/"), l[0], l[1], l[2])
	long := file("/b", strings.Repeat("x", api.MaxData+1))
	lays(t, l, long, long, l[2])
	// What an Opaque one is made of has no data, whatever was handed in.
	lays(t, table{file("/b", "x")}, api.Entry{Path: "/b", Kind: api.Dir, Data: "y"}, opaque("/b"))
}

// 15.1: Bottom.

func TestBottom(t *testing.T) {
	sinks(t, nil)
	sinks(t, table{})
	sinks(t, table{white("/a")})
	sinks(t, table{opaque("/a")}, dir("/a"))
	sinks(t, table{dir("/a")}, dir("/a"))
	sinks(t, table{file("/a", "x")}, file("/a", "x"))
	sinks(t,
		table{white("/a"), opaque("/b"), white("/b/c"), opaque("/b/d"), file("/b/d/e", "e"), dir("/f"), dir("/f/g"), opaque("/f/g/h"), white("/f/g/i"), file("/j", "")},
		dir("/b"), dir("/b/d"), file("/b/d/e", "e"), dir("/f"), dir("/f/g"), dir("/f/g/h"), file("/j", ""))
	sinks(t, whites('a', api.MaxNodes))
	sinks(t, filled('a', api.MaxNodes), filled('a', api.MaxNodes)...)
	// The order is kept, and what is none of the kinds, too.
	sinks(t,
		table{opaque("/z"), white("/b"), file("/a", "x"), {}, white("/a"), {Path: "/q", Kind: 5, Data: "q"}, white(""), opaque("/z"), {Path: "/n", Kind: -1}},
		dir("/z"), file("/a", "x"), api.Entry{}, api.Entry{Path: "/q", Kind: 5, Data: "q"}, dir("/z"), api.Entry{Path: "/n", Kind: -1})
}

// 15.2: Two.

// noLayers are lists that are no right layers, in one thing each.
func noLayers() []table {
	return []table{
		{{}}, {{Path: "/a"}}, {dir("/")}, {dir("a")}, {dir("/a/")}, {dir("/A")}, {{Path: "/a", Kind: 5}}, {{Path: "/a", Kind: -1}},
		{{Path: "/a", Kind: api.Dir, Data: "x"}}, {file("/a", strings.Repeat("x", api.MaxData+1))}, {dir("/a"), dir("/a")}, {dir("/b"), dir("/a")},
		{file("/a/b", "")}, {white("/a"), white("/a/b")}, {file("/a", ""), file("/a/b", "")}, {dir("/a"), file("/a/b", ""), dir("/a-")},
		filled('f', api.MaxNodes+1), make(table, 1<<16),
	}
}

func TestTwoOfNoLayers(t *testing.T) {
	for _, bad := range noLayers() {
		for _, good := range []table{nil, {dir("/a")}, {white("/a")}, filled('g', api.MaxNodes)} {
			for _, bottom := range []bool{false, true} {
				refused(t, bad, good, bottom, api.ErrState)
				refused(t, good, bad, bottom, api.ErrState)
				refused(t, bad, bad, bottom, api.ErrState)
			}
		}
	}
}

func TestExample(t *testing.T) {
	makes(t, table{file("/a", "x")}, table{white("/a")}, false, white("/a"))
	makes(t, table{file("/a", "x")}, table{white("/a")}, true)
}

func TestTwo(t *testing.T) {
	makes(t, nil, nil, false)
	makes(t, table{}, table{}, true)
	low := table{
		dir("/a"), file("/a/b", "1"), dir("/a/c"), file("/a/c/d", "2"), white("/a/e"), opaque("/b"), white("/b/c"), file("/b/d", "3"),
		file("/c", "4"), white("/d"), white("/e"), opaque("/f"), file("/f/g", "5"), dir("/h"),
	}
	high := table{
		dir("/a"), white("/a/b"), opaque("/a/c"), file("/a/c/x", "6"), dir("/a/e"), file("/a/e/y", "7"), dir("/b"), dir("/b/c"), dir("/b/d"), white("/b/z"),
		dir("/c"), file("/c/n", "8"), file("/d", "9"), white("/f"), opaque("/g"), white("/i"),
	}
	both := table{
		dir("/a"), white("/a/b"), opaque("/a/c"), file("/a/c/x", "6"), opaque("/a/e"), file("/a/e/y", "7"),
		opaque("/b"), opaque("/b/c"), opaque("/b/d"), white("/b/z"), opaque("/c"), file("/c/n", "8"), file("/d", "9"), white("/e"), white("/f"),
		opaque("/g"), dir("/h"), white("/i"),
	}
	makes(t, low, high, false, both...)
	makes(t, low, high, true,
		dir("/a"), dir("/a/c"), file("/a/c/x", "6"), dir("/a/e"), file("/a/e/y", "7"), dir("/b"), dir("/b/c"), dir("/b/d"),
		dir("/c"), file("/c/n", "8"), file("/d", "9"), dir("/g"), dir("/h"))
	makes(t, low, nil, false, low...)
	makes(t, nil, high, false, high...)
	makes(t, low, nil, true, merge.Bottom(low)...)
	makes(t, nil, high, true, merge.Bottom(high)...)
}

// 15.2: the bound, of what came, and of nothing on the way to it.

func TestTwoFull(t *testing.T) {
	for _, bottom := range []bool{false, true} {
		for _, n := range []int{0, 1, 31, 32, 63, 64} {
			low, high := filled('a', n), filled('b', api.MaxNodes-n)
			makes(t, low, high, bottom, append(low, high...)...)
			makes(t, high, low, bottom, append(filled('a', n), high...)...)
			if n > 0 {
				refused(t, filled('a', n), append(high, file("/c", "")), bottom, api.ErrSpace)
				refused(t, append(high, file("/c", "")), filled('a', n), bottom, api.ErrSpace)
			}
		}
		all := filled('a', api.MaxNodes)
		makes(t, all, all, bottom, all...)
		refused(t, all, filled('b', api.MaxNodes), bottom, api.ErrSpace)
		refused(t, all, table{dir("/b")}, bottom, api.ErrSpace)
	}
	all := filled('a', api.MaxNodes)
	makes(t, all, table{opaque(all[9].Path)}, false, append(append(filled('a', 9), opaque(all[9].Path)), all[10:]...)...)
	makes(t, all, table{dir(all[9].Path)}, false, append(append(filled('a', 9), opaque(all[9].Path)), all[10:]...)...)
	makes(t, all, table{white(all[9].Path)}, true, append(filled('a', 9), all[10:]...)...)
	refused(t, all, table{white("/b")}, false, api.ErrSpace)
	refused(t, whites('a', api.MaxNodes), table{file("/b", "")}, false, api.ErrSpace)
	refused(t, whites('a', api.MaxNodes), whites('b', api.MaxNodes), false, api.ErrSpace)
}

// TestTwoFullAtTheBottom holds that whiteouts don't count where they go.
func TestTwoFullAtTheBottom(t *testing.T) {
	all := filled('a', api.MaxNodes)
	makes(t, all, table{white("/b")}, true, all...)
	makes(t, all, whites('b', api.MaxNodes), true, all...)
	makes(t, whites('b', api.MaxNodes), all, true, all...)
	makes(t, whites('a', api.MaxNodes), whites('b', api.MaxNodes), true)
	refused(t, all, append(whites('b', api.MaxNodes-1), file("/c", "")), true, api.ErrSpace)
}

// TestTwoFullOnTheWay holds that more may stand there for a while: what goes later on made room.
func TestTwoFullOnTheWay(t *testing.T) {
	low := full("/m", api.MaxNodes-1)
	for _, bottom := range []bool{false, true} {
		high := append(filled('b', api.MaxNodes-1), file("/m", ""))
		makes(t, low, high, bottom, high...)
		high = append(filled('b', api.MaxNodes-2), dir("/m"), dir("/m/faa"))
		refused(t, low, high, bottom, api.ErrSpace)
	}
	makes(t, low, append(filled('b', api.MaxNodes-1), white("/m")), false, append(filled('b', api.MaxNodes-1), white("/m"))...)
	makes(t, low, append(filled('b', api.MaxNodes-1), opaque("/m")), true, append(filled('b', api.MaxNodes-1), dir("/m"))...)
}

// 15.1, 15.2 and 15.3, of small layers all, and of others at random.

// told answers what the chapter's words make of two layers: entries by their paths.
func told(low, high table, bottom bool) table {
	all := map[string]api.Entry{}
	for _, e := range low {
		all[e.Path] = e
	}
	for _, e := range high {
		x, is := all[e.Path]
		if e.Kind == api.Dir {
			if !is {
				all[e.Path] = e
			} else if x.Kind == api.File || x.Kind == api.White {
				all[e.Path] = opaque(e.Path)
			}
			continue
		}
		for p := range all {
			if strings.HasPrefix(p, e.Path+"/") {
				delete(all, p)
			}
		}
		all[e.Path] = e
	}
	var l table
	for _, e := range all {
		if bottom && e.Kind == api.White {
			continue
		}
		if bottom && e.Kind == api.Opaque {
			e.Kind = api.Dir
		}
		l = append(l, e)
	}
	slices.SortFunc(l, func(a, b api.Entry) int { return strings.Compare(a.Path, b.Path) })
	return l
}

// laid holds that two layers come to what is told, and answers it.
func laid(t *testing.T, low, high table, bottom bool) table {
	t.Helper()
	want := told(low, high, bottom)
	if len(want) > api.MaxNodes {
		refused(t, low, high, bottom, api.ErrSpace)
		return nil
	}
	got, err := merge.Two(low, high, bottom)
	if err != nil || !slices.Equal(got, want) || !layer.Right(got) {
		t.Errorf("Two(%+v, %+v, %v) = %+v, %v: not %+v", few(low), few(high), bottom, few(got), err, few(want))
	}
	return got
}

// showsAlike holds that one stack shows what another one does, all in all and at these paths.
func showsAlike(t *testing.T, a, b stack, paths []string) {
	t.Helper()
	if one, other := fold.Stack(a), fold.Stack(b); !slices.Equal(one, other) {
		t.Errorf("%+v shows %+v, but %+v shows %+v", a, few(one), b, few(other))
	}
	for _, p := range paths {
		one, err := look.At(a, p)
		other, wrong := look.At(b, p)
		if one.E != other.E || fail.Code(err) != fail.Code(wrong) {
			t.Errorf("at %s of %+v lies %+v, %v, but of %+v %+v, %v", p, a, one.E, err, b, other.E, wrong)
		}
	}
}

// small are all layers that have something, or nothing, at these paths.
func small(paths ...string) []table {
	all := []table{nil}
	for _, p := range paths {
		var next []table
		for _, l := range all {
			next = append(next, l)
			for _, e := range []api.Entry{file(p, p), dir(p), white(p), opaque(p)} {
				if with := append(slices.Clone(l), e); layer.Right(with) {
					next = append(next, with)
				}
			}
		}
		all = next
	}
	return all
}

// marked answers a layer whose files tell that they are its own.
func marked(l table, by string) table {
	l = slices.Clone(l)
	for i, e := range l {
		if e.Kind == api.File {
			l[i].Data = by + e.Data
		}
	}
	return l
}

// TestTwoSmallLayers makes all pairs one, with nothing below.
func TestTwoSmallLayers(t *testing.T) {
	paths := []string{"/a", "/a-", "/a/b", "/a/b/c", "/b"}
	for _, low := range small("/a", "/a/b", "/a/b/c") {
		for _, high := range small("/a", "/a-", "/a/b", "/a/b/c") {
			high = marked(high, "high")
			for _, bottom := range []bool{false, true} {
				showsAlike(t, stack{low, high}, stack{laid(t, low, high, bottom)}, paths)
			}
		}
	}
}

// TestSmallLayersBelow makes all pairs one over each layer, and with another one over them.
func TestSmallLayersBelow(t *testing.T) {
	paths := []string{"/a", "/a/b", "/a/b/c"}
	layers := small(paths...)
	for i, low := range layers {
		for j, high := range layers {
			high = marked(high, "high")
			one := laid(t, low, high, false)
			for k, below := range layers {
				below = marked(below, "below")
				showsAlike(t, stack{below, low, high}, stack{below, one}, paths)
				above := marked(layers[(i+7*j+k)%len(layers)], "above")
				showsAlike(t, stack{below, low, high, above}, stack{below, one, above}, nil)
			}
		}
	}
}

// TestAtTheBottomAlone holds that what is at the bottom doesn't hide what lies below.
func TestAtTheBottomAlone(t *testing.T) {
	below := table{dir("/a"), file("/a/b", "below"), file("/c", "below")}
	low, high := table{file("/c", "low")}, table{opaque("/a"), white("/c")}
	one, other := laid(t, low, high, false), laid(t, low, high, true)
	showsAlike(t, stack{below, low, high}, stack{below, one}, []string{"/a", "/a/b", "/c"})
	if got := fold.Stack(stack{below, other}); !slices.Equal(got, below) {
		t.Errorf("%+v and %+v show %+v", below, other, got)
	}
}

// nearby are paths that stand close to each other.
func nearby() []string {
	return []string{
		"/a", "/a-", "/a-/b", "/a-b", "/a/b", "/a/b/c", "/a/b/c/d", "/a/b/c/d/e", "/a/b/c/d/e/f", "/a/b/d", "/a/c", "/a0", "/ab", "/ab/c", "/b", "/b/c", "/b/c/d",
	}
}

// random answers a layer with entries at some of those paths.
func random(r *rand.Rand) table {
	var l table
	for _, p := range nearby() {
		e := api.Entry{Path: p, Kind: []int{api.File, api.Dir, api.Dir, api.White, api.Opaque}[r.Intn(5)]}
		if e.Kind == api.File {
			e.Data = strings.Repeat("d", r.Intn(9))
		}
		if with := append(slices.Clone(l), e); r.Intn(4) > 0 && layer.Right(with) {
			l = with
		}
	}
	return l
}

// TestStacksAtRandom makes two neighbours of a stack one, again and again, till one layer is left.
func TestStacksAtRandom(t *testing.T) {
	r := rand.New(rand.NewSource(15))
	for range 1500 {
		s := make(stack, 2+r.Intn(api.MaxStack))
		for i := range s {
			s[i] = random(r)
		}
		was := slices.Clone(s)
		for len(s) > 1 {
			at := r.Intn(len(s) - 1)
			one := laid(t, s[at], s[at+1], at == 0 && r.Intn(2) == 0)
			s = slices.Concat(s[:at], stack{one}, s[at+2:])
			showsAlike(t, was, s, nearby())
		}
		if shown := fold.Stack(was); !slices.Equal(merge.Bottom(s[0]), shown) {
			t.Fatalf("%+v at the bottom isn't %+v", s[0], shown)
		}
		if t.Failed() {
			return
		}
	}
}

// crowded answers a layer that is nearly full.
func crowded(r *rand.Rand) table {
	var l table
	for _, d := range []string{"/a", "/b", "/c", "/d"} {
		e := api.Entry{Path: d, Kind: []int{api.File, api.Dir, api.Dir, api.Dir, api.White, api.Opaque}[r.Intn(6)]}
		l = append(l, e)
		if e.Kind != api.Dir && e.Kind != api.Opaque {
			continue
		}
		for _, f := range filled('f', 26) {
			f.Path = d + f.Path
			f.Kind = []int{api.File, api.White}[r.Intn(2)]
			f.Data = ""
			if r.Intn(2) == 0 && len(l) < api.MaxNodes {
				l = append(l, f)
			}
		}
	}
	return l
}

// TestCrowdedLayersAtRandom holds the bound for layers of all lengths.
func TestCrowdedLayersAtRandom(t *testing.T) {
	r := rand.New(rand.NewSource(64))
	over, under := 0, 0
	for range 4000 {
		low, high, bottom := crowded(r), crowded(r), r.Intn(2) == 0
		laid(t, low, high, bottom)
		if len(told(low, high, bottom)) > api.MaxNodes {
			over++
		} else {
			under++
		}
	}
	if over < 100 || under < 100 {
		t.Errorf("%d were too many, and %d weren't", over, under)
	}
}

// TestTwoEntryByEntry holds that two layers are made one by One and Bottom.
func TestTwoEntryByEntry(t *testing.T) {
	r := rand.New(rand.NewSource(1))
	for range 2000 {
		low, high := random(r), random(r)
		one := low
		for _, e := range high {
			one = merge.One(one, e)
		}
		makes(t, low, high, false, one...)
		makes(t, low, high, true, merge.Bottom(one)...)
	}
}

// What is handed out is new memory, and isn't kept.

func TestMemory(t *testing.T) {
	r := rand.New(rand.NewSource(2))
	for i := range 600 {
		low, high := random(r), random(r)
		if i%3 == 1 {
			low = nil
		}
		if i%5 == 1 {
			high = nil
		}
		first, wholeFirst := roomy(low)
		second, wholeSecond := roomy(high)
		for _, bottom := range []bool{false, true} {
			want := told(low, high, bottom)
			one, _ := merge.Two(first, second, bottom)
			other, _ := merge.Two(first, second, bottom)
			spoil(one)
			if !slices.Equal(other, want) {
				t.Fatalf("two answers of Two share memory")
			}
		}
		for _, e := range append(slices.Clone(high), dir("/a"), file("/a", ""), white("/zz"), api.Entry{Path: "/a", Kind: 7}) {
			one, other := merge.One(first, e), merge.One(first, e)
			was := slices.Clone(other)
			spoil(one)
			if !slices.Equal(other, was) {
				t.Fatalf("two answers of One share memory")
			}
		}
		one, other := merge.Bottom(first), merge.Bottom(first)
		was := slices.Clone(other)
		spoil(one)
		if !slices.Equal(other, was) {
			t.Fatalf("two answers of Bottom share memory")
		}
		untouched(t, "a change of what was answered", wholeFirst, low)
		untouched(t, "a change of what was answered", wholeSecond, high)
	}
}
