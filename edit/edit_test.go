package edit_test

import (
	"maps"
	"math"
	"math/rand"
	"slices"
	"strings"
	"testing"

	"shale/api"
	"shale/edit"
	"shale/fail"
	"shale/fold"
	"shale/layer"
	"shale/tree"
)

// file, dir, white and opaque are entries of their kinds.
func file(p, data string) api.Entry { return api.Entry{Path: p, Kind: api.File, Data: data} }
func dir(p string) api.Entry        { return api.Entry{Path: p, Kind: api.Dir} }
func white(p string) api.Entry      { return api.Entry{Path: p, Kind: api.White} }
func opaque(p string) api.Entry     { return api.Entry{Path: p, Kind: api.Opaque} }

// table is a list of entries, and stack one of layers.
type (
	table = []api.Entry
	stack = []table
)

// create and the others are ops of their kinds.
func create(p string) edit.Op                 { return edit.Op{Do: 0, P: p} }
func mkdir(p string) edit.Op                  { return edit.Op{Do: 1, P: p} }
func write(p string, n int, s string) edit.Op { return edit.Op{Do: 2, P: p, N: n, S: s} }
func cut(p string, n int) edit.Op             { return edit.Op{Do: 3, P: p, N: n} }
func unlink(p string) edit.Op                 { return edit.Op{Do: 4, P: p} }
func rmdir(p string) edit.Op                  { return edit.Op{Do: 5, P: p} }
func rename(p, q string) edit.Op              { return edit.Op{Do: 6, P: p, Q: q} }

// onTree does a right op by chapter 11's functions.
func onTree(t table, o edit.Op) (table, error) {
	switch o.Do {
	case 0:
		return tree.Create(t, o.P)
	case 1:
		return tree.Mkdir(t, o.P)
	case 2:
		return tree.Write(t, o.P, o.N, o.S)
	case 3:
		return tree.Cut(t, o.P, o.N)
	case 4:
		return tree.Unlink(t, o.P)
	case 5:
		return tree.Rmdir(t, o.P)
	}
	return tree.Rename(t, o.P, o.Q)
}

// filled answers n files in the root, whose names begin with that letter.
func filled(first byte, n int) table {
	var l table
	for i := range n {
		l = append(l, file("/"+string([]byte{first, byte('a' + i/26), byte('a' + i%26)}), ""))
	}
	return l
}

// allOps are ops of each kind at these paths and some others, right ones and such that are refused.
func allOps(paths []string) []edit.Op {
	var all []edit.Op
	for _, p := range paths {
		all = append(all, create(p), mkdir(p), unlink(p), rmdir(p))
		all = append(all, write(p, 0, "new"), write(p, 2, ""), write(p, -1, ""), write(p, api.MaxData, "x"), cut(p, 0), cut(p, 3), cut(p, -1))
		for _, q := range paths {
			all = append(all, rename(p, q))
		}
	}
	return all
}

// short is an op, and few a table, cut so that it can be told.
func short(o edit.Op) edit.Op {
	o.P, o.Q, o.S = o.P[:min(len(o.P), 60)], o.Q[:min(len(o.Q), 60)], o.S[:min(len(o.S), 20)]
	return o
}
func few(l table) table { return l[:min(len(l), 12)] }

// becomes holds that an op makes one upper layer of another one.
func becomes(t *testing.T, low stack, up table, o edit.Op, want ...api.Entry) {
	t.Helper()
	if got, err := edit.Do(low, up, o); err != nil || !slices.Equal(got, want) {
		t.Errorf("Do(%+v, %+v, %+v) = %+v, %v: not %+v", low[:min(len(low), 10)], few(up), short(o), got, err, want)
	}
}

// refused holds that an op is, with nothing beside the error.
func refused(t *testing.T, low stack, up table, o edit.Op, code api.Errno) {
	t.Helper()
	if got, err := edit.Do(low, up, o); len(got) > 0 || fail.Code(err) != int(code) {
		t.Errorf("Do(%d layers, %+v, %+v) = %+v, %v: not %d", len(low), few(up), short(o), few(got), err, code)
	}
}

// 14.1: Right.

// wrong are ops that aren't right, in one thing each.
func wrong() []edit.Op {
	var all []edit.Op
	for _, n := range []int{-1, 7, 8, 100, 256, 1 << 32, math.MinInt, math.MaxInt} {
		all = append(all, edit.Op{Do: n}, edit.Op{Do: n, P: "/a"})
	}
	for n := range 7 {
		all = append(all,
			edit.Op{Do: n, P: strings.Repeat("a", 55)}, edit.Op{Do: n, P: "/a", Q: "/" + strings.Repeat("b", 54)},
			edit.Op{Do: n, P: "/a", S: strings.Repeat("c", 257)}, edit.Op{Do: n, P: strings.Repeat("/abcdefgh", 7)},
			edit.Op{Do: n, P: "/a", Q: strings.Repeat("/a", 1<<16)}, edit.Op{Do: n, P: "/a", S: strings.Repeat("\x00", 1<<16)},
		)
	}
	return all
}

func TestRight(t *testing.T) {
	for n := range 7 {
		for _, o := range []edit.Op{
			{}, {P: "/a", Q: "/b", N: 3, S: "s"}, {P: "no path", Q: "/A", S: "\xff"},
			{P: strings.Repeat("p", 54)}, {Q: strings.Repeat("q", 54)}, {S: strings.Repeat("s", 256)},
			{P: strings.Repeat("/abcdefgh", 6), Q: strings.Repeat("/abcdefgh", 6), S: strings.Repeat("é", 128)},
			{N: -1}, {N: api.MaxData + 1}, {N: math.MinInt}, {N: math.MaxInt},
		} {
			o.Do = n
			if !edit.Right(o) {
				t.Errorf("Right(%+v) = false", o)
			}
		}
	}
	for _, o := range wrong() {
		if edit.Right(o) {
			t.Errorf("Right(%+v) = true", short(o))
		}
	}
}

// 14.1: On.

// sample is a tree with something at each depth.
func sample() table {
	return table{
		dir("/a"), file("/a-", "minus"), file("/a/b", "0123"), dir("/a/c"), dir("/a/c/d"), file("/a/c/d/e", ""),
		dir("/e"), file("/f", strings.Repeat("f", api.MaxData)),
	}
}

// near are the sample's paths, such as it has nothing at, and texts that are no paths.
func near() []string {
	return []string{
		"/", "/a", "/a-", "/a-/b", "/a/b", "/a/b/c", "/a/b/c/d", "/a/c", "/a/c/d", "/a/c/d/e", "/a/c/d/f", "/a/x", "/a/x/y", "/e", "/e/x", "/f", "/f/x", "/f/x/y",
		"/x", "/x/y", "/x/y/z", "", "a", "/a/", "//", "/A", "/abcdefghi", "/a/b/c/d/e/f/g",
	}
}

func TestOnAsChapter11(t *testing.T) {
	for _, l := range []table{nil, sample(), {white("/a")}, {file("/a/b", "")}, {dir("/b"), dir("/a")}, {{}}} {
		for _, o := range allOps(near()) {
			got, err := edit.On(l, o)
			want, code := onTree(l, o)
			if fail.Code(err) != fail.Code(code) || !slices.Equal(got, want) {
				t.Errorf("On(%+v, %+v) = %+v, %v: not %+v, %v", l, o, got, err, want, code)
			}
		}
	}
}

func TestOn(t *testing.T) {
	l := table{dir("/a"), file("/a/b", "old"), dir("/c")}
	for _, x := range []struct {
		o    edit.Op
		want table
	}{
		{create("/d"), table{dir("/a"), file("/a/b", "old"), dir("/c"), file("/d", "")}},
		{mkdir("/a/d"), table{dir("/a"), file("/a/b", "old"), dir("/a/d"), dir("/c")}},
		{write("/a/b", 3, "er"), table{dir("/a"), file("/a/b", "older"), dir("/c")}},
		{cut("/a/b", 2), table{dir("/a"), file("/a/b", "ol"), dir("/c")}},
		{unlink("/a/b"), table{dir("/a"), dir("/c")}},
		{rmdir("/c"), table{dir("/a"), file("/a/b", "old")}},
		{rename("/a/b", "/c/b"), table{dir("/a"), dir("/c"), file("/c/b", "old")}},
		// What an op has beside what it needs doesn't count.
		{edit.Op{Do: 0, P: "/d", Q: "no path", N: -5, S: "s"}, table{dir("/a"), file("/a/b", "old"), dir("/c"), file("/d", "")}},
		{edit.Op{Do: 3, P: "/a/b", Q: "/c", N: 1, S: "s"}, table{dir("/a"), file("/a/b", "o"), dir("/c")}},
		{edit.Op{Do: 6, P: "/a/b", Q: "/d", N: -5, S: "s"}, table{dir("/a"), dir("/c"), file("/d", "old")}},
	} {
		if got, err := edit.On(l, x.o); err != nil || !slices.Equal(got, x.want) {
			t.Errorf("On(%+v) = %+v, %v: not %+v", x.o, got, err, x.want)
		}
	}
}

func TestOnOfWrongOps(t *testing.T) {
	for _, o := range wrong() {
		for _, l := range []table{nil, sample(), {white("/a")}, {{}}} {
			if got, err := edit.On(l, o); len(got) > 0 || fail.Code(err) != int(api.ErrArg) {
				t.Errorf("On(%+v, %+v) = %+v, %v", l, short(o), got, err)
			}
		}
	}
}

// 14.2: the errors, in their order.

// noLayers are some that aren't right, in one thing each.
func noLayers() []table {
	return []table{
		{{}}, {{Path: "/a"}}, {dir("/")}, {dir("a")}, {dir("/a/")}, {{Path: "/a", Kind: 5}}, {{Path: "/a", Kind: api.Dir, Data: "x"}},
		{file("/a", strings.Repeat("x", api.MaxData+1))}, {dir("/a"), dir("/a")}, {dir("/b"), dir("/a")}, {file("/a/b", "")},
		{white("/a"), white("/a/b")}, {dir("/a"), file("/a/b", ""), dir("/a-")}, filled('f', api.MaxNodes+1), make(table, 1<<16),
	}
}

func TestDoOfWrongOps(t *testing.T) {
	for _, o := range wrong() {
		refused(t, nil, nil, o, api.ErrArg)
		refused(t, stack{sample()}, table{white("/f")}, o, api.ErrArg)
		refused(t, stack{{{}}}, nil, o, api.ErrArg)
		refused(t, nil, table{{}}, o, api.ErrArg)
		refused(t, make(stack, api.MaxStack+1), nil, o, api.ErrArg)
	}
}

func TestDoOfNoStack(t *testing.T) {
	for _, o := range []edit.Op{create("/n"), mkdir("/n"), write("/f", 0, ""), cut("/f", 0), unlink("/f"), rmdir("/e"), rename("/f", "/n"), create(""), create("/"), unlink("/n"), {}} {
		for _, l := range noLayers() {
			refused(t, stack{sample()}, l, o, api.ErrState)
			refused(t, nil, l, o, api.ErrState)
			for at := range 3 {
				refused(t, slices.Insert(stack{sample(), {file("/q", "")}}, at, l), nil, o, api.ErrState)
			}
		}
		for _, n := range []int{api.MaxStack + 1, api.MaxStack + 2, 1 << 16} {
			refused(t, make(stack, n), nil, o, api.ErrState)
			refused(t, append(stack{sample()}, make(stack, n-1)...), nil, o, api.ErrState)
		}
	}
}

func TestDoOfTheHighestStack(t *testing.T) {
	low := append(stack{sample()}, make(stack, api.MaxStack-1)...)
	becomes(t, low, nil, create("/n"), file("/n", ""))
	becomes(t, low, nil, cut("/a/b", 1), dir("/a"), file("/a/b", "0"))
	becomes(t, low, nil, unlink("/a/b"), dir("/a"), white("/a/b"))
	becomes(t, make(stack, api.MaxStack), table{dir("/a")}, rmdir("/a"))
}

func TestDoErrorsAsChapter11(t *testing.T) {
	// What shows is the sample, once of a lower layer, once of the upper one, once of both.
	both := table{dir("/a"), file("/a-", "low"), file("/a/b", "0123"), dir("/a/c"), file("/a/x", "hidden"), dir("/b"), file("/e", "low"), file("/f", "low")}
	over := table{
		dir("/a"), file("/a-", "minus"), opaque("/a/c"), dir("/a/c/d"), file("/a/c/d/e", ""), white("/a/x"), white("/b"),
		dir("/e"), file("/f", strings.Repeat("f", api.MaxData)),
	}
	if s := fold.Stack(stack{both, over}); !slices.Equal(s, sample()) {
		t.Fatalf("both show %+v", s)
	}
	for _, o := range allOps(near()) {
		want, code := onTree(sample(), o)
		for _, s := range []stack{{sample(), nil}, {nil, sample()}, {sample()}, {sample(), sample()}, {both, over}, {both, nil, over}} {
			low, up := s[:len(s)-1], s[len(s)-1]
			got, err := edit.Do(low, up, o)
			if fail.Code(err) != fail.Code(code) || err != nil && len(got) > 0 {
				t.Errorf("Do(%+v, %+v, %+v) = %+v, %v: not %v", low, up, o, got, err, code)
			}
			if shown := fold.Stack(append(slices.Clone(low), got)); err == nil && !slices.Equal(shown, want) {
				t.Errorf("Do(%+v, %+v, %+v) = %+v, which shows %+v: not %+v", low, up, o, got, shown, want)
			}
		}
	}
}

// 14.2: upper layers, written out.

func TestExample(t *testing.T) {
	becomes(t, stack{{file("/a", "x")}}, nil, unlink("/a"), white("/a"))
}

func TestOverNothing(t *testing.T) {
	for _, low := range []stack{nil, {}, {nil}, make(stack, api.MaxStack)} {
		becomes(t, low, nil, create("/a"), file("/a", ""))
		becomes(t, low, nil, mkdir("/a"), dir("/a"))
		becomes(t, low, table{dir("/a")}, create("/a/b"), dir("/a"), file("/a/b", ""))
		becomes(t, low, table{dir("/a")}, mkdir("/a/b"), dir("/a"), dir("/a/b"))
		becomes(t, low, table{file("/a", "0123")}, write("/a", 1, "xy"), file("/a", "0xy3"))
		becomes(t, low, table{file("/a", "0123")}, write("/a", 6, "x"), file("/a", "0123\x00\x00x"))
		becomes(t, low, table{file("/a", "0123")}, cut("/a", 2), file("/a", "01"))
		becomes(t, low, table{file("/a", "0123")}, cut("/a", 5), file("/a", "0123\x00"))
		becomes(t, low, table{file("/a", "0123"), file("/b", "")}, unlink("/a"), file("/b", ""))
		becomes(t, low, table{file("/a", "0123")}, unlink("/a"))
		becomes(t, low, table{dir("/a"), dir("/a/b")}, rmdir("/a/b"), dir("/a"))
		becomes(t, low, table{opaque("/a")}, rmdir("/a"))
		becomes(t, low, table{file("/a", "0123")}, rename("/a", "/b"), file("/b", "0123"))
		becomes(t, low, table{dir("/a"), file("/a/b", "0123")}, rename("/a/b", "/b"), dir("/a"), file("/b", "0123"))
	}
}

// What is written to is copied up, whole, with the directories that it lies in.
func TestCopiedUp(t *testing.T) {
	low := stack{{dir("/a"), dir("/a/b"), file("/a/b/c", "0123"), file("/a/d", "d"), file("/e", "e")}}
	up := []api.Entry{dir("/a"), dir("/a/b")}
	becomes(t, low, nil, write("/a/b/c", 3, "xy"), append(up, file("/a/b/c", "012xy"))...)
	becomes(t, low, nil, write("/a/b/c", 0, ""), append(up, file("/a/b/c", "0123"))...)
	becomes(t, low, nil, cut("/a/b/c", 1), append(up, file("/a/b/c", "0"))...)
	becomes(t, low, nil, cut("/a/b/c", 4), append(up, file("/a/b/c", "0123"))...)
	becomes(t, low, nil, write("/a/d", 1, "!"), dir("/a"), file("/a/d", "d!"))
	becomes(t, low, nil, write("/e", 1, "!"), file("/e", "e!"))
	becomes(t, append(low, table{file("/e", "upper")}), nil, cut("/e", 2), file("/e", "up"))
	deep := table{dir("/a"), dir("/a/b"), dir("/a/b/c"), dir("/a/b/c/d"), dir("/a/b/c/d/e"), file("/a/b/c/d/e/f", "deep")}
	becomes(t, stack{deep}, nil, write("/a/b/c/d/e/f", 0, "D"), append(slices.Clone(deep[:5]), file("/a/b/c/d/e/f", "Deep"))...)
}

// The directories that an entry lies in are laid where the upper layer has none, and left as they are where it has.
func TestDirectoriesLaid(t *testing.T) {
	low := stack{{dir("/a"), dir("/a/b"), dir("/a/b/c"), file("/a/b/c/f", "")}}
	for _, x := range []struct {
		o    edit.Op
		laid api.Entry
	}{
		{create("/a/b/c/g"), file("/a/b/c/g", "")}, {mkdir("/a/b/c/g"), dir("/a/b/c/g")},
		{write("/a/b/c/f", 0, "x"), file("/a/b/c/f", "x")}, {cut("/a/b/c/f", 1), file("/a/b/c/f", "\x00")}, {unlink("/a/b/c/f"), white("/a/b/c/f")},
	} {
		becomes(t, low, nil, x.o, dir("/a"), dir("/a/b"), dir("/a/b/c"), x.laid)
		becomes(t, low, table{dir("/a")}, x.o, dir("/a"), dir("/a/b"), dir("/a/b/c"), x.laid)
		becomes(t, low, table{dir("/a"), dir("/a/b"), file("/z", "")}, x.o, dir("/a"), dir("/a/b"), dir("/a/b/c"), x.laid, file("/z", ""))
		becomes(t, low, table{dir("/a"), dir("/a/b"), dir("/a/b/c")}, x.o, dir("/a"), dir("/a/b"), dir("/a/b/c"), x.laid)
	}
	becomes(t, low, table{opaque("/a")}, create("/a/x"), opaque("/a"), file("/a/x", ""))
	becomes(t, low, table{opaque("/a"), dir("/a/x")}, create("/a/x/y"), opaque("/a"), dir("/a/x"), file("/a/x/y", ""))
	becomes(t, low, table{dir("/a"), opaque("/a/b")}, mkdir("/a/b/x"), dir("/a"), opaque("/a/b"), dir("/a/b/x"))
	becomes(t, low, nil, rename("/a/b/c/f", "/f"), dir("/a"), dir("/a/b"), dir("/a/b/c"), white("/a/b/c/f"), file("/f", ""))
	becomes(t, stack{{dir("/a"), dir("/a/b"), file("/f", "x")}}, nil, rename("/f", "/a/b/c"), dir("/a"), dir("/a/b"), file("/a/b/c", "x"), white("/f"))
}

// A whiteout is laid where the lower layers show something still, and nowhere else.
func TestWhiteouts(t *testing.T) {
	low := stack{{dir("/a"), file("/a/b", "low"), dir("/d"), file("/f", "low")}}
	becomes(t, low, nil, unlink("/f"), white("/f"))
	becomes(t, low, nil, unlink("/a/b"), dir("/a"), white("/a/b"))
	becomes(t, low, nil, rmdir("/d"), white("/d"))
	becomes(t, low, table{file("/f", "up")}, unlink("/f"), white("/f"))
	becomes(t, low, table{dir("/a"), file("/a/b", "up")}, unlink("/a/b"), dir("/a"), white("/a/b"))
	becomes(t, low, table{dir("/d")}, rmdir("/d"), white("/d"))
	becomes(t, low, table{opaque("/d")}, rmdir("/d"), white("/d"))
	becomes(t, low, table{opaque("/a")}, rmdir("/a"), white("/a"))
	becomes(t, low, table{dir("/f")}, rmdir("/f"), white("/f"))
	becomes(t, low, table{file("/d", "up")}, unlink("/d"), white("/d"))
	// Of the upper layer alone.
	becomes(t, low, table{file("/g", "up")}, unlink("/g"))
	becomes(t, low, table{dir("/a"), file("/a/c", "up")}, unlink("/a/c"), dir("/a"))
	becomes(t, low, table{dir("/g")}, rmdir("/g"))
	// What an opaque directory of the upper layer hides.
	becomes(t, low, table{opaque("/a"), file("/a/b", "up")}, unlink("/a/b"), opaque("/a"))
	becomes(t, low, table{opaque("/a"), dir("/a/b")}, rmdir("/a/b"), opaque("/a"))
	// What a lower layer hides already.
	for _, mid := range []table{{dir("/a"), white("/a/b"), white("/d"), white("/f")}, {opaque("/a"), white("/d"), white("/f")}} {
		becomes(t, append(low, mid), table{file("/f", "up")}, unlink("/f"))
		becomes(t, append(low, mid), table{dir("/a"), file("/a/b", "up")}, unlink("/a/b"), dir("/a"))
		becomes(t, append(low, mid), table{dir("/d")}, rmdir("/d"))
	}
	// The file of the layer between hides what lies in the lowest one's directory, whatever is laid over it.
	for _, up := range []api.Entry{dir("/a"), opaque("/a")} {
		becomes(t, append(low, table{file("/a", "mid")}), table{up, file("/a/b", "up")}, unlink("/a/b"), up)
	}
}

// What lies under the path of what is removed goes, and nothing that begins alike.
func TestWhatLiesUnderGoes(t *testing.T) {
	low := stack{{dir("/a"), file("/a/b", ""), dir("/a/c"), file("/a/c/d", "")}}
	up := table{dir("/a"), file("/a-", "1"), white("/a/b"), white("/a/c"), file("/a0", "2"), dir("/ab"), file("/ab/b", "3")}
	becomes(t, low, up, rmdir("/a"), white("/a"), file("/a-", "1"), file("/a0", "2"), dir("/ab"), file("/ab/b", "3"))
	becomes(t, low, table{dir("/a"), white("/a/b"), dir("/a/c"), white("/a/c/d")}, rmdir("/a/c"), dir("/a"), white("/a/b"), white("/a/c"))
	becomes(t, nil, table{dir("/x"), white("/x/y"), white("/x/z")}, rmdir("/x"))
	becomes(t, nil, table{dir("/x"), dir("/x/y"), white("/x/y/z")}, rmdir("/x/y"), dir("/x"))
	becomes(t, nil, table{opaque("/x"), white("/x/y")}, rmdir("/x"))
}

// A directory is opaque where a whiteout stood, and nowhere else.
func TestDirectoriesMade(t *testing.T) {
	low := stack{{dir("/a"), file("/a/b", "low"), dir("/a/c"), file("/a/c/d", "low"), file("/f", "")}}
	becomes(t, low, table{white("/a")}, mkdir("/a"), opaque("/a"))
	becomes(t, low, table{white("/f")}, mkdir("/f"), opaque("/f"))
	becomes(t, low, table{dir("/a"), white("/a/c")}, mkdir("/a/c"), dir("/a"), opaque("/a/c"))
	becomes(t, nil, table{white("/a")}, mkdir("/a"), opaque("/a"))
	becomes(t, append(low, table{white("/a"), white("/f")}), nil, mkdir("/a"), dir("/a"))
	becomes(t, append(low, table{white("/a"), white("/f")}), table{white("/f")}, mkdir("/a"), dir("/a"), white("/f"))
	becomes(t, low, nil, mkdir("/g"), dir("/g"))
	becomes(t, low, nil, mkdir("/a/g"), dir("/a"), dir("/a/g"))
	becomes(t, low, table{opaque("/a")}, mkdir("/a/c"), opaque("/a"), dir("/a/c"))
	becomes(t, append(low, table{dir("/a"), white("/a/c")}), nil, mkdir("/a/c"), dir("/a"), dir("/a/c"))
}

// A file takes a whiteout's place.
func TestFilesOverWhiteouts(t *testing.T) {
	low := stack{{dir("/a"), file("/a/b", "low"), file("/f", "low"), file("/g", "g")}}
	becomes(t, low, table{white("/f")}, create("/f"), file("/f", ""))
	becomes(t, low, table{white("/a")}, create("/a"), file("/a", ""))
	becomes(t, low, table{dir("/a"), white("/a/b")}, create("/a/b"), dir("/a"), file("/a/b", ""))
	becomes(t, low, table{white("/f")}, rename("/g", "/f"), file("/f", "g"), white("/g"))
	becomes(t, low, table{white("/a"), file("/g", "up")}, rename("/g", "/a"), file("/a", "up"), white("/g"))
}

func TestRename(t *testing.T) {
	low := stack{{dir("/a"), file("/a/b", "ab"), dir("/c"), file("/f", "f")}}
	becomes(t, low, nil, rename("/f", "/g"), white("/f"), file("/g", "f"))
	becomes(t, low, nil, rename("/a/b", "/a/c"), dir("/a"), white("/a/b"), file("/a/c", "ab"))
	becomes(t, low, nil, rename("/a/b", "/c/b"), dir("/a"), white("/a/b"), dir("/c"), file("/c/b", "ab"))
	becomes(t, low, table{file("/f", "up")}, rename("/f", "/a/a"), dir("/a"), file("/a/a", "up"), white("/f"))
	becomes(t, low, table{file("/n", "up")}, rename("/n", "/c/n"), dir("/c"), file("/c/n", "up"))
	becomes(t, low, table{opaque("/a"), file("/a/b", "up")}, rename("/a/b", "/a/c"), opaque("/a"), file("/a/c", "up"))
	refused(t, low, nil, rename("/f", "/f"), api.ErrExists)
	refused(t, low, nil, rename("/f", "/a/b"), api.ErrExists)
	refused(t, low, nil, rename("/f", "/f/g"), api.ErrNotDir)
	refused(t, low, nil, rename("/f", "/f/g/h"), api.ErrNone)
	refused(t, low, nil, rename("/a", "/b"), api.ErrDir)
	refused(t, low, nil, rename("/f", "/x/y"), api.ErrNone)
}

// 14.2: the upper layer's length.

func TestFull(t *testing.T) {
	low := stack{{dir("/a"), dir("/a/b"), file("/a/b/c", "c"), dir("/d"), file("/z", "z")}}
	for _, x := range []struct {
		o    edit.Op
		more int
	}{
		{create("/n"), 1}, {create("/a/n"), 2}, {create("/a/b/n"), 3}, {mkdir("/n"), 1}, {mkdir("/a/b/n"), 3},
		{write("/z", 0, "x"), 1}, {write("/a/b/c", 0, "x"), 3}, {cut("/z", 0), 1}, {cut("/a/b/c", 0), 3},
		{unlink("/z"), 1}, {unlink("/a/b/c"), 3}, {rmdir("/d"), 1},
		{rename("/z", "/n"), 2}, {rename("/z", "/d/n"), 3}, {rename("/a/b/c", "/d/n"), 5}, {rename("/a/b/c", "/a/b/n"), 4}, {rename("/a/b/c", "/a/n"), 4},
	} {
		for n := api.MaxNodes - x.more; n <= api.MaxNodes; n++ {
			got, err := edit.Do(low, filled('f', n), x.o)
			if n+x.more > api.MaxNodes {
				refused(t, low, filled('f', n), x.o, api.ErrSpace)
			} else if err != nil || len(got) != api.MaxNodes || !layer.Right(got) {
				t.Errorf("Do over %d entries, %+v: %d entries, %v", n, x.o, len(got), err)
			}
		}
	}
}

// A full layer takes what needs no room, or makes some.
func TestFullWithoutNeed(t *testing.T) {
	low := stack{{dir("/a"), file("/a/b", "b"), dir("/a/c"), file("/z", "z")}}
	fits := func(up table, o edit.Op, n int) {
		t.Helper()
		if len(up) != api.MaxNodes {
			t.Fatalf("%d entries", len(up))
		}
		if got, err := edit.Do(low, up, o); err != nil || len(got) != n || !layer.Right(got) {
			t.Errorf("Do(%+v over a full layer) = %d entries, %v: not %d", o, len(got), err, n)
		}
	}
	files := filled('f', api.MaxNodes)
	fits(files, write("/faa", 0, "x"), 64)
	fits(files, cut("/fcl", 9), 64)
	fits(files, unlink("/faa"), 63)
	fits(files, rename("/faa", "/g"), 64)
	refused(t, low, files, rename("/faa", "/a/n"), api.ErrSpace)
	fits(append(filled('f', 63), white("/z")), create("/z"), 64)
	fits(append(filled('f', 63), white("/z")), mkdir("/z"), 64)
	fits(append(filled('f', 63), white("/z")), rename("/faa", "/z"), 63)
	fits(append(filled('f', 63), file("/z", "")), unlink("/z"), 64)
	refused(t, low, append(filled('f', 63), file("/z", "")), rename("/z", "/n"), api.ErrSpace)
	fits(append(table{dir("/a"), white("/a/b"), white("/a/c")}, filled('f', 61)...), rmdir("/a"), 62)
	fits(append(table{dir("/a")}, filled('f', 63)...), rename("/faa", "/a/n"), 64)
	refused(t, low, append(table{dir("/a")}, filled('f', 63)...), rmdir("/a/c"), api.ErrSpace)
	// The room is asked of last.
	for _, x := range []struct {
		o    edit.Op
		code api.Errno
	}{
		{create("/faa"), api.ErrExists}, {create("/x/y"), api.ErrNone}, {create("/z/y"), api.ErrNotDir}, {create("/"), api.ErrArg}, {create(""), api.ErrPath},
		{write("/z", -1, ""), api.ErrSize}, {cut("/z", 257), api.ErrSize}, {unlink("/a"), api.ErrDir}, {rmdir("/a"), api.ErrFull}, {rename("/z", "/faa"), api.ErrExists},
		{edit.Op{Do: 7, P: "/n"}, api.ErrArg},
	} {
		refused(t, low, files, x.o, x.code)
	}
}

// 14.3, and the upper layer by the document's words, from another program.

// has tells whether a tree has something at a path.
func has(l table, p string) bool {
	return slices.ContainsFunc(l, func(e api.Entry) bool { return e.Path == p })
}

// upper is an upper layer by its paths.
type upper map[string]api.Entry

// lay lays an entry, and the directories that it lies in.
func (u upper) lay(e api.Entry) {
	for i, c := range e.Path {
		if _, is := u[e.Path[:i]]; c == '/' && i > 0 && !is {
			u[e.Path[:i]] = dir(e.Path[:i])
		}
	}
	u[e.Path] = e
}

// remove removes what lies at a path.
func (u upper) remove(low stack, p string) {
	for q := range u {
		if q == p || strings.HasPrefix(q, p+"/") {
			delete(u, q)
		}
	}
	dirs := u.layer()
	dirs = slices.DeleteFunc(dirs, func(e api.Entry) bool { return e.Kind == api.File || e.Kind == api.White })
	if has(fold.Stack(append(slices.Clone(low), dirs)), p) {
		u.lay(white(p))
	}
}

// layer answers it as one.
func (u upper) layer() table {
	return slices.SortedFunc(maps.Values(u), func(a, b api.Entry) int { return strings.Compare(a.Path, b.Path) })
}

// told answers what the document says of an op: the upper layer, or an error's number.
func told(low stack, up table, o edit.Op) (table, int) {
	seen := fold.Stack(append(slices.Clone(low), up))
	came, err := onTree(seen, o)
	if err != nil {
		return nil, fail.Code(err)
	}
	u := upper{}
	for _, e := range up {
		u[e.Path] = e
	}
	data := func(p string) string {
		s, _ := tree.Read(came, p)
		return s
	}
	switch o.Do {
	case 0:
		u.lay(file(o.P, ""))
	case 1:
		kind := api.Dir
		if u[o.P].Kind == api.White {
			kind = api.Opaque
		}
		u.lay(api.Entry{Path: o.P, Kind: kind})
	case 2, 3:
		u.lay(file(o.P, data(o.P)))
	case 4, 5:
		u.remove(low, o.P)
	case 6:
		u.remove(low, o.P)
		u.lay(file(o.Q, data(o.Q)))
	}
	if len(u) > api.MaxNodes {
		return nil, int(api.ErrSpace)
	}
	return u.layer(), 0
}

// asTold holds that an op does what the document says, and answers the upper layer, if there is one.
func asTold(t *testing.T, low stack, up table, o edit.Op) (table, bool) {
	t.Helper()
	want, code := told(low, up, o)
	got, err := edit.Do(low, up, o)
	if fail.Code(err) != code || !slices.Equal(got, want) {
		t.Fatalf("Do(%+v, %+v, %+v) = %+v, %v: not %+v, %d", low, up, o, got, err, want, code)
	}
	seen := fold.Stack(append(slices.Clone(low), up))
	came, refusal := onTree(seen, o)
	if code != fail.Code(refusal) && (refusal != nil || code != int(api.ErrSpace)) {
		t.Fatalf("Do(%+v, %+v, %+v): %d: not %v", low, up, o, code, refusal)
	}
	if shown := fold.Stack(append(slices.Clone(low), got)); code == 0 && !slices.Equal(shown, came) {
		t.Fatalf("Do(%+v, %+v, %+v) = %+v, which shows %+v: not %+v", low, up, o, got, shown, came)
	}
	return got, code == 0
}

// small answers all right layers that have nothing but entries of these paths, and of any kind.
func small(paths ...string) []table {
	all := []table{nil}
	for _, p := range paths {
		var next []table
		for _, l := range all {
			next = append(next, l)
			for _, e := range []api.Entry{file(p, p), dir(p), white(p), opaque(p)} {
				if with := append(slices.Clone(l), e); layer.Right(with) {
					next = append(next, with)
				}
			}
		}
		all = next
	}
	return all
}

// some are ops of each kind at these paths, less many than allOps has.
func some(paths ...string) []edit.Op {
	var all []edit.Op
	for _, p := range paths {
		all = append(all, create(p), mkdir(p), unlink(p), rmdir(p), write(p, 1, "w"), cut(p, 1))
		for _, q := range paths {
			all = append(all, rename(p, q))
		}
	}
	return all
}

// overAll does the ops over each stack of two of the layers.
func overAll(t *testing.T, layers []table, ops []edit.Op) {
	t.Helper()
	for _, low := range layers {
		for _, up := range layers {
			for _, o := range ops {
				asTold(t, stack{low}, up, o)
			}
		}
	}
}

func TestTwoSmallLayers(t *testing.T) {
	overAll(t, small("/a", "/a-", "/a/b"), some("/a", "/a-", "/a/b", "/a/b/c", "/c"))
	overAll(t, small("/a", "/a/b", "/a/b/c"), some("/a", "/a/b", "/a/b/c", "/a/d", "/d"))
}

func TestThreeSmallLayers(t *testing.T) {
	layers, ops := small("/a", "/a/b"), some("/a", "/a/b", "/c")
	if len(layers) != 13 {
		t.Fatalf("%d layers", len(layers))
	}
	for _, low := range layers {
		for _, mid := range layers {
			for _, up := range layers {
				for _, o := range ops {
					asTold(t, stack{low, mid}, up, o)
				}
			}
		}
	}
}

// random answers an op of some paths.
func random(r *rand.Rand, paths []string) edit.Op {
	return edit.Op{
		Do: r.Intn(7), P: paths[r.Intn(len(paths))], Q: paths[r.Intn(len(paths))],
		N: r.Intn(40) - 2, S: strings.Repeat("s", r.Intn(5)),
	}
}

// Ops follow each other; the upper layer is frozen from time to time, and an old lower one left away.
func TestLongRuns(t *testing.T) {
	r := rand.New(rand.NewSource(14))
	paths := []string{"/a", "/a/b", "/a/b/c", "/a/b/c/d", "/a/b/c/d/e", "/a/b/c/d/e/f", "/a/b-", "/a/d", "/a-", "/b", "/b/a", "/b/a/c", "/c", "/c/d", "/ab"}
	done := map[int]int{}
	for range 200 {
		var low stack
		var up table
		for range 300 {
			o := random(r, paths)
			l, went := asTold(t, low, up, o)
			if went {
				up = l
				done[o.Do]++
			}
			if r.Intn(12) == 0 {
				low, up = append(low, up), nil
			}
			if len(low) > api.MaxStack {
				low = low[1+r.Intn(api.MaxStack):]
			}
		}
	}
	for n := range 7 {
		if done[n] < 150 {
			t.Errorf("of the deed %d there were %d alone", n, done[n])
		}
	}
}

// The upper layer comes to its bound, again and again.
func TestLongRunsOfFullLayers(t *testing.T) {
	r := rand.New(rand.NewSource(15))
	var paths []string
	for _, in := range []string{"", "/d", "/d/e", "/f"} {
		for i := range 24 {
			paths = append(paths, in+"/"+string([]byte{byte('a' + i)}))
		}
	}
	counts := map[int]int{}
	for range 6 {
		var low stack
		up := table{dir("/d"), dir("/d/e"), dir("/f")}
		for range 800 {
			o := random(r, paths)
			if r.Intn(2) == 0 {
				o.Do = r.Intn(2)
			}
			l, went := asTold(t, low, up, o)
			if went {
				up = l
			}
			counts[len(up)]++
			if r.Intn(300) == 0 && len(low) < api.MaxStack {
				low, up = append(low, up), nil
			}
		}
	}
	if counts[api.MaxNodes] < 100 {
		t.Errorf("the upper layer was full %d times alone", counts[api.MaxNodes])
	}
}

// Memory: what is handed in isn't changed, and what is handed out is new.

// spoil fills a list, and the room behind it.
func spoil(l table) {
	l = l[:cap(l)]
	for i := range l {
		l[i] = file("/spoiled", "")
	}
}

// roomy answers a list with two entries in the room behind it, and the whole of both.
func roomy(l table) (table, table) {
	whole := append(slices.Clone(l), file("/spare", "1"), file("/room", "2"))
	return whole[:len(l)], whole
}

func TestMemory(t *testing.T) {
	lows := stack{sample(), {dir("/a"), white("/a/b"), file("/g", "")}}
	ups := []table{nil, {dir("/a"), file("/a/b", "up"), white("/f")}, {white("/a"), dir("/h"), file("/h/i", "")}, {{}}, filled('f', api.MaxNodes)}
	for _, up := range ups {
		for _, o := range append(allOps([]string{"/a", "/a/b", "/a/c/d/e", "/f", "/h/i", "/n"}), edit.Op{Do: 7}) {
			handed := make(stack, len(lows), len(lows)+1)
			wholes := make(stack, len(lows))
			for i, l := range lows {
				handed[i], wholes[i] = roomy(l)
			}
			handed[:len(lows)+1][len(lows)] = table{file("/spare", "3")}
			handedUp, wholeUp := roomy(up)
			first, _ := edit.Do(handed, handedUp, o)
			kept := slices.Clone(first)
			second, _ := edit.Do(handed, handedUp, o)
			spoil(second)
			if !slices.Equal(first, kept) {
				t.Errorf("%+v, %+v: an answer shares memory with a later one", up, o)
			}
			spoil(first)
			for i, l := range lows {
				if !slices.Equal(wholes[i], append(slices.Clone(l), file("/spare", "1"), file("/room", "2"))) || !slices.Equal(handed[i], l) {
					t.Errorf("%+v: the layer %d was left as %+v", o, i, wholes[i])
				}
			}
			if !slices.Equal(wholeUp, append(slices.Clone(up), file("/spare", "1"), file("/room", "2"))) {
				t.Errorf("%+v: the upper layer was left as %+v", o, wholeUp)
			}
			if !slices.Equal(handed[:len(lows)+1][len(lows)], table{file("/spare", "3")}) {
				t.Errorf("%+v: the room behind the lower layers was changed", o)
			}
		}
	}
}

func TestMemoryOfOn(t *testing.T) {
	for _, o := range append(allOps(near()), edit.Op{Do: 7}) {
		handed, whole := roomy(sample())
		first, _ := edit.On(handed, o)
		kept := slices.Clone(first)
		second, _ := edit.On(handed, o)
		spoil(second)
		if !slices.Equal(first, kept) {
			t.Errorf("%+v: an answer shares memory with a later one", o)
		}
		spoil(first)
		if !slices.Equal(whole, append(sample(), file("/spare", "1"), file("/room", "2"))) {
			t.Errorf("%+v: the tree was left as %+v", o, whole)
		}
	}
}
