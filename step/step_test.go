package step_test

import (
	"math"
	"math/rand"
	"slices"
	"strings"
	"testing"

	"shale/api"
	"shale/fail"
	"shale/fold"
	"shale/layer"
	"shale/merge"
	"shale/step"
)

// file, dir, white and opaque are entries of their kinds.
func file(p, data string) api.Entry { return api.Entry{Path: p, Kind: api.File, Data: data} }
func dir(p string) api.Entry        { return api.Entry{Path: p, Kind: api.Dir} }
func white(p string) api.Entry      { return api.Entry{Path: p, Kind: api.White} }
func opaque(p string) api.Entry     { return api.Entry{Path: p, Kind: api.Opaque} }

// table is a list of entries, and stack one of layers.
type (
	table = []api.Entry
	stack = []table
)

// filled answers n files in the root, whose names begin with that letter.
func filled(first byte, n int) table {
	var l table
	for i := range n {
		l = append(l, file("/"+string([]byte{first, byte('a' + i/26), byte('a' + i%26)}), strings.Repeat("x", i%5)))
	}
	return l
}

// whites answers whiteouts where filled has files.
func whites(first byte, n int) table {
	l := filled(first, n)
	for i, e := range l {
		l[i] = white(e.Path)
	}
	return l
}

// few is a table, cut so that it can be told.
func few(l table) table { return l[:min(len(l), 12)] }

// roomy answers a list with two entries in the room behind it, and the whole of both.
func roomy(l table) (table, table) {
	whole := append(slices.Clone(l), file("/spare", "1"), file("/room", "2"))
	return whole[:len(l)], whole
}

// untouched holds that a call changed nothing of what it was handed, spare room included.
func untouched(t *testing.T, what string, whole, l table) {
	t.Helper()
	if !slices.Equal(whole, append(slices.Clone(l), file("/spare", "1"), file("/room", "2"))) {
		t.Errorf("%s changed what was handed in: %+v", what, few(whole))
	}
}

// spoil overwrites a list, spare room included.
func spoil(l table) {
	l = l[:cap(l)]
	for i := range l {
		l[i] = api.Entry{Path: "spoilt", Kind: -7, Data: "spoilt"}
	}
}

// begun answers a merge of two layers.
func begun(t *testing.T, low, high table, bottom bool) *step.Merge {
	t.Helper()
	m, err := step.Begin(low, high, bottom)
	if m == nil || err != nil {
		t.Fatalf("Begin(%+v, %+v, %v) = %v, %v", few(low), few(high), bottom, m, err)
	}
	return m
}

// stands holds how many entries a merge has left, and that it has no layer before it is ready.
func stands(t *testing.T, m *step.Merge, left int) {
	t.Helper()
	if m.Left() != left || m.Ready() != (left == 0) {
		t.Errorf("of %d entries left Left is %d, Ready %v", left, m.Left(), m.Ready())
	}
	if left > 0 {
		noLayer(t, m, api.ErrState)
	}
}

// noLayer holds that a merge has none, and which error it answers.
func noLayer(t *testing.T, m *step.Merge, code api.Errno) {
	t.Helper()
	if l, err := m.Layer(); len(l) > 0 || fail.Code(err) != int(code) {
		t.Errorf("Layer = %+v, %v: not %d", few(l), err, code)
	}
}

// steps holds how many entries a step lays.
func steps(t *testing.T, m *step.Merge, n, want int) {
	t.Helper()
	left := m.Left()
	if got, err := m.Step(n); got != want || err != nil {
		t.Errorf("Step(%d) of %d = %d, %v: not %d", n, left, got, err, want)
	}
	stands(t, m, left-want)
}

// noSteps holds that numbers below 1 are refused, and change nothing.
func noSteps(t *testing.T, m *step.Merge) {
	t.Helper()
	left := m.Left()
	for _, n := range []int{0, -1, -2, -64, math.MinInt, math.MinInt32, -1 << 32} {
		if got, err := m.Step(n); got != 0 || fail.Code(err) != int(api.ErrArg) {
			t.Errorf("Step(%d) = %d, %v", n, got, err)
		}
	}
	stands(t, m, left)
}

// comes holds that a merge that is ready has the layer, or the error, that both layers come to.
func comes(t *testing.T, m *step.Merge, low, high table, bottom bool) {
	t.Helper()
	want, wrong := merge.Two(low, high, bottom)
	got, err := m.Layer()
	if !slices.Equal(got, want) || fail.Code(err) != fail.Code(wrong) {
		t.Errorf("%+v and %+v, %v, stepped, come to %+v, %v: not %+v, %v", few(low), few(high), bottom, few(got), err, few(want), wrong)
	}
}

// noLayers are lists that are no right layers, in one thing each.
func noLayers() []table {
	return []table{
		{{}}, {{Path: "/a"}}, {dir("/")}, {dir("a")}, {dir("/a/")}, {dir("/A")}, {{Path: "/a", Kind: 5}}, {{Path: "/a", Kind: -1}},
		{{Path: "/a", Kind: api.Dir, Data: "x"}}, {file("/a", strings.Repeat("x", api.MaxData+1))}, {dir("/a"), dir("/a")}, {dir("/b"), dir("/a")},
		{file("/a/b", "")}, {white("/a"), white("/a/b")}, {file("/a", ""), file("/a/b", "")}, {dir("/a"), file("/a/b", ""), dir("/a-")},
		filled('f', api.MaxNodes+1), make(table, 1<<16),
	}
}

// 16.1: Begin, Left and Ready.

func TestBeginOfNoLayers(t *testing.T) {
	refused := func(low, high table, bottom bool) {
		if m, err := step.Begin(low, high, bottom); m != nil || fail.Code(err) != int(api.ErrState) {
			t.Errorf("Begin(%+v, %+v, %v) = %v, %v", few(low), few(high), bottom, m, err)
		}
	}
	for _, bad := range noLayers() {
		for _, good := range []table{nil, {dir("/a")}, {white("/a")}, filled('g', api.MaxNodes)} {
			for _, bottom := range []bool{false, true} {
				refused(bad, good, bottom)
				refused(good, bad, bottom)
				refused(bad, bad, bottom)
			}
		}
	}
}

func TestBegin(t *testing.T) {
	for _, bottom := range []bool{false, true} {
		for _, low := range []table{nil, {}, {dir("/a"), white("/a/b")}, filled('f', api.MaxNodes)} {
			for n := range api.MaxNodes + 1 {
				stands(t, begun(t, low, filled('g', n), bottom), n)
			}
		}
	}
}

// TestNothingHigh holds that where nothing is to be laid a merge is ready at once.
func TestNothingHigh(t *testing.T) {
	for _, high := range []table{nil, {}} {
		for _, bottom := range []bool{false, true} {
			for _, low := range []table{nil, {}, {file("/a", "x"), opaque("/b"), white("/c")}, whites('w', api.MaxNodes)} {
				m := begun(t, low, high, bottom)
				stands(t, m, 0)
				comes(t, m, low, high, bottom)
				steps(t, m, 1, 0)
				comes(t, m, low, high, bottom)
			}
		}
	}
}

func TestNil(t *testing.T) {
	var m *step.Merge
	if m.Left() != 0 || m.Ready() {
		t.Errorf("of nil Left is %d, Ready %v", m.Left(), m.Ready())
	}
	for _, n := range []int{math.MinInt, -1, 0, 1, 2, math.MaxInt} {
		if got, err := m.Step(n); got != 0 || fail.Code(err) != int(api.ErrArg) {
			t.Errorf("Step(%d) of nil = %d, %v", n, got, err)
		}
	}
	noLayer(t, m, api.ErrArg)
}

// 16.2: Step and Layer.

func TestExample(t *testing.T) {
	m := begun(t, nil, table{dir("/a"), file("/a/b", "x")}, false)
	steps(t, m, 1, 1)
	steps(t, m, 5, 1)
	comes(t, m, nil, table{dir("/a"), file("/a/b", "x")}, false)
}

func TestStep(t *testing.T) {
	low := table{dir("/a"), file("/a/b", "1"), dir("/a/c"), file("/a/c/d", "2"), file("/b", "3"), white("/c"), opaque("/d")}
	high := table{dir("/a"), white("/a/b"), opaque("/a/c"), dir("/b"), file("/b/e", "4"), file("/c", "5"), white("/d"), file("/e", "6")}
	for _, n := range []int{1, 2, 3, 4, 5, 6, 7, 8, 9, 64, 65, 1 << 16, math.MaxInt32, math.MaxInt32 + 1, 1 << 32, 1<<32 + 1, math.MaxInt - 1, math.MaxInt} {
		for _, bottom := range []bool{false, true} {
			m := begun(t, low, high, bottom)
			for !m.Ready() && !t.Failed() {
				noSteps(t, m)
				steps(t, m, n, min(n, m.Left()))
			}
			comes(t, m, low, high, bottom)
		}
	}
	m := begun(t, low, high, false)
	steps(t, m, 8, 8)
	want := table{dir("/a"), white("/a/b"), opaque("/a/c"), opaque("/b"), file("/b/e", "4"), file("/c", "5"), white("/d"), file("/e", "6")}
	if l, err := m.Layer(); err != nil || !slices.Equal(l, want) {
		t.Errorf("Layer = %+v, %v: not %+v", l, err, want)
	}
	m = begun(t, low, high, true)
	steps(t, m, 9, 8)
	want = table{dir("/a"), dir("/a/c"), dir("/b"), file("/b/e", "4"), file("/c", "5"), file("/e", "6")}
	if l, err := m.Layer(); err != nil || !slices.Equal(l, want) {
		t.Errorf("Layer at the bottom = %+v, %v: not %+v", l, err, want)
	}
}

// TestReady holds that a merge that is ready stays so, and answers the same again and again.
func TestReady(t *testing.T) {
	low, high := table{opaque("/a"), file("/a/b", "x"), white("/c")}, table{dir("/a"), white("/a/b"), file("/d", "")}
	for _, bottom := range []bool{false, true} {
		m := begun(t, low, high, bottom)
		steps(t, m, 3, 3)
		for _, n := range []int{1, 2, 64, math.MaxInt} {
			comes(t, m, low, high, bottom)
			steps(t, m, n, 0)
			noSteps(t, m)
			comes(t, m, low, high, bottom)
		}
	}
}

// TestNotReady holds that asking for the layer too early changes nothing.
func TestNotReady(t *testing.T) {
	low, high := filled('l', 9), append(whites('l', 9), filled('m', 5)...)
	for _, bottom := range []bool{false, true} {
		m := begun(t, low, high, bottom)
		for left := len(high); left > 0; left-- {
			for range 3 {
				stands(t, m, left)
			}
			steps(t, m, 1, 1)
		}
		comes(t, m, low, high, bottom)
	}
}

// 16.2: the bound, which is of what came alone.

func TestTooMany(t *testing.T) {
	for _, bottom := range []bool{false, true} {
		for _, n := range []int{0, 1, 2, 32, 63, 64} {
			low, high := filled('a', n), filled('b', api.MaxNodes-n)
			m := begun(t, low, high, bottom)
			m.Step(api.MaxNodes)
			comes(t, m, low, high, bottom)
			if l, err := m.Layer(); len(l) != api.MaxNodes || err != nil {
				t.Errorf("Layer of 64 = %d, %v", len(l), err)
			}
			if n == 0 {
				continue
			}
			high = append(high, file("/c", ""))
			m = begun(t, low, high, bottom)
			m.Step(api.MaxNodes)
			for range 3 {
				noLayer(t, m, api.ErrSpace)
				noSteps(t, m)
				steps(t, m, 1, 0)
			}
		}
	}
	all := filled('a', api.MaxNodes)
	m := begun(t, all, filled('b', api.MaxNodes), true)
	for range api.MaxNodes {
		steps(t, m, 1, 1)
	}
	noLayer(t, m, api.ErrSpace)
}

// TestTooManyOnTheWay holds that more may stand there than a layer has, till it is ready.
func TestTooManyOnTheWay(t *testing.T) {
	low := append(table{dir("/z")}, file("/z/a", ""))
	for _, e := range filled('y', api.MaxNodes-2) {
		low = append(low, file("/z"+e.Path, ""))
	}
	high := append(filled('b', api.MaxNodes-1), file("/z", ""))
	for n := range api.MaxNodes + 1 {
		for _, bottom := range []bool{false, true} {
			m := begun(t, low, high, bottom)
			for !m.Ready() {
				steps(t, m, n+1, min(n+1, m.Left()))
			}
			if l, err := m.Layer(); err != nil || !slices.Equal(l, high) {
				t.Errorf("by %d steps Layer = %+v, %v", n+1, few(l), err)
			}
		}
	}
}

// TestTooManyWhiteouts holds that they don't count where they go, and do elsewhere.
func TestTooManyWhiteouts(t *testing.T) {
	low, high := whites('a', api.MaxNodes), append(whites('b', api.MaxNodes-1), file("/c", "x"))
	m := begun(t, low, high, true)
	steps(t, m, api.MaxNodes, api.MaxNodes)
	if l, err := m.Layer(); err != nil || !slices.Equal(l, table{file("/c", "x")}) {
		t.Errorf("Layer at the bottom = %+v, %v", few(l), err)
	}
	m = begun(t, low, high, false)
	steps(t, m, api.MaxNodes, api.MaxNodes)
	noLayer(t, m, api.ErrSpace)
}

// 16.3: however it is stepped.

// everyWay steps a merge in each way that there is: of each number of entries, all that they may be split into.
func everyWay(t *testing.T, low, high table, bottom bool) {
	t.Helper()
	for cuts := range 1 << max(len(high)-1, 0) {
		m := begun(t, low, high, bottom)
		at := 0
		for i := range high {
			if i+1 == len(high) || cuts>>i&1 == 1 {
				steps(t, m, i+1-at, i+1-at)
				at = i + 1
			}
		}
		comes(t, m, low, high, bottom)
	}
}

// small are all layers that have something, or nothing, at these paths.
func small(paths ...string) []table {
	all := []table{nil}
	for _, p := range paths {
		var next []table
		for _, l := range all {
			next = append(next, l)
			for _, e := range []api.Entry{file(p, p), dir(p), white(p), opaque(p)} {
				if with := append(slices.Clone(l), e); layer.Right(with) {
					next = append(next, with)
				}
			}
		}
		all = next
	}
	return all
}

// marked answers a layer whose files tell that they are its own.
func marked(l table, by string) table {
	l = slices.Clone(l)
	for i, e := range l {
		if e.Kind == api.File {
			l[i].Data = by + e.Data
		}
	}
	return l
}

func TestEveryWay(t *testing.T) {
	for _, low := range small("/a", "/a/b", "/a/b/c") {
		for _, high := range small("/a", "/a-", "/a/b", "/a/b/c") {
			for _, bottom := range []bool{false, true} {
				everyWay(t, low, marked(high, "high"), bottom)
			}
		}
	}
}

// nearby are paths that stand close to each other.
func nearby() []string {
	return []string{
		"/a", "/a-", "/a-/b", "/a-b", "/a/b", "/a/b/c", "/a/b/c/d", "/a/b/c/d/e", "/a/b/c/d/e/f", "/a/b/d", "/a/c", "/a0", "/ab", "/ab/c", "/b", "/b/c", "/b/c/d",
	}
}

// random answers a layer with entries at some of those paths.
func random(r *rand.Rand) table {
	var l table
	for _, p := range nearby() {
		e := api.Entry{Path: p, Kind: []int{api.File, api.Dir, api.Dir, api.White, api.Opaque}[r.Intn(5)]}
		if e.Kind == api.File {
			e.Data = strings.Repeat("d", r.Intn(9))
		}
		if with := append(slices.Clone(l), e); r.Intn(4) > 0 && layer.Right(with) {
			l = with
		}
	}
	return l
}

// crowded answers a layer that is nearly full.
func crowded(r *rand.Rand) table {
	var l table
	for _, d := range []string{"/a", "/b", "/c", "/d"} {
		e := api.Entry{Path: d, Kind: []int{api.File, api.Dir, api.Dir, api.Dir, api.White, api.Opaque}[r.Intn(6)]}
		l = append(l, e)
		if e.Kind != api.Dir && e.Kind != api.Opaque {
			continue
		}
		for _, f := range filled('f', 26) {
			f.Path = d + f.Path
			f.Kind = []int{api.File, api.White}[r.Intn(2)]
			f.Data = ""
			if r.Intn(2) == 0 && len(l) < api.MaxNodes {
				l = append(l, f)
			}
		}
	}
	return l
}

// anyhow steps a merge by numbers at random, wrong ones among them, and answers how many steps laid something.
func anyhow(t *testing.T, r *rand.Rand, m *step.Merge, most int) int {
	t.Helper()
	laid := 0
	for !m.Ready() && !t.Failed() {
		if n := r.Intn(most+2) - 1; n < 1 {
			noSteps(t, m)
		} else {
			steps(t, m, n, min(n, m.Left()))
			laid++
		}
	}
	return laid
}

func TestAtRandom(t *testing.T) {
	r := rand.New(rand.NewSource(16))
	for i := range 4000 {
		low, high, bottom := random(r), random(r), r.Intn(2) == 0
		if i%4 == 0 {
			low, high = crowded(r), crowded(r)
		}
		m := begun(t, low, high, bottom)
		if laid := anyhow(t, r, m, 1+r.Intn(9)); laid > len(high) {
			t.Errorf("%d steps for %d entries", laid, len(high))
		}
		comes(t, m, low, high, bottom)
		if t.Failed() {
			return
		}
	}
}

// TestOneByOne holds that it is ready behind as many steps as the high layer has entries, at most, and not before if each lays one.
func TestOneByOne(t *testing.T) {
	r := rand.New(rand.NewSource(1))
	for range 500 {
		low, high := crowded(r), crowded(r)
		m := begun(t, low, high, true)
		for i := range high {
			stands(t, m, len(high)-i)
			steps(t, m, 1, 1)
		}
		stands(t, m, 0)
		comes(t, m, low, high, true)
	}
}

// TestShowsTheSame makes neighbours of a stack one till one layer is left: what the stack shows is another one behind no step.
func TestShowsTheSame(t *testing.T) {
	r := rand.New(rand.NewSource(2))
	for range 400 {
		s := make(stack, 2+r.Intn(api.MaxStack))
		for i := range s {
			s[i] = random(r)
		}
		shown := fold.Stack(s)
		for len(s) > 1 && !t.Failed() {
			at := r.Intn(len(s) - 1)
			m := begun(t, s[at], s[at+1], at == 0)
			anyhow(t, r, m, 5)
			one, err := m.Layer()
			if err != nil || !layer.Right(one) {
				t.Fatalf("Layer = %+v, %v", few(one), err)
			}
			s = slices.Concat(s[:at], stack{one}, s[at+2:])
			if got := fold.Stack(s); !slices.Equal(got, shown) {
				t.Errorf("merged it shows %+v: not %+v", few(got), few(shown))
			}
		}
		if !slices.Equal(s[0], shown) {
			t.Errorf("at the bottom stands %+v: not %+v", few(s[0]), few(shown))
		}
	}
}

// What is handed in isn't changed, nor kept; what is handed out is new.

func TestHandedIn(t *testing.T) {
	r := rand.New(rand.NewSource(3))
	for range 600 {
		low, high, bottom := random(r), random(r), r.Intn(2) == 0
		first, wholeFirst := roomy(low)
		second, wholeSecond := roomy(high)
		m := begun(t, first, second, bottom)
		anyhow(t, r, m, 5)
		m.Layer()
		untouched(t, "a merge", wholeFirst, low)
		untouched(t, "a merge", wholeSecond, high)

		m = begun(t, first, second, bottom)
		if r.Intn(2) == 0 {
			m.Step(1)
		}
		spoil(first)
		spoil(second)
		anyhow(t, r, m, 5)
		comes(t, m, low, high, bottom)
	}
}

func TestHandedOut(t *testing.T) {
	r := rand.New(rand.NewSource(4))
	for i := range 600 {
		low, high, bottom := random(r), random(r), r.Intn(2) == 0
		if i%3 == 0 {
			high = nil
		}
		if i%5 == 0 {
			low = nil
		}
		m := begun(t, low, high, bottom)
		anyhow(t, r, m, 5)
		for range 3 {
			one, _ := m.Layer()
			other, _ := m.Layer()
			was := slices.Clone(other)
			spoil(one)
			if !slices.Equal(other, was) {
				t.Fatalf("two answers of Layer share memory")
			}
			comes(t, m, low, high, bottom)
		}
	}
}

// TestSideBySide steps merges in turns, of the same layers, which have nothing of each other.
func TestSideBySide(t *testing.T) {
	r := rand.New(rand.NewSource(5))
	for range 300 {
		layers := stack{random(r), random(r), random(r)}
		type pair struct {
			m         *step.Merge
			low, high table
			bottom    bool
		}
		var all []pair
		for range 6 {
			low, high, bottom := layers[r.Intn(3)], layers[r.Intn(3)], r.Intn(2) == 0
			all = append(all, pair{begun(t, low, high, bottom), low, high, bottom})
		}
		for range 60 {
			m := all[r.Intn(len(all))].m
			n := 1 + r.Intn(3)
			steps(t, m, n, min(n, m.Left()))
		}
		for _, p := range all {
			p.m.Step(math.MaxInt)
			comes(t, p.m, p.low, p.high, p.bottom)
		}
	}
}
