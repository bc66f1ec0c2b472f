package space_test

import (
	"math"
	"math/rand"
	"slices"
	"strings"
	"testing"

	"shale/api"
	"shale/fail"
	"shale/space"
)

// places answers the map that a text tells: x is used, another byte free.
func places(s string) []bool {
	used := make([]bool, 0, len(s))
	for i := range len(s) {
		used = append(used, s[i] == 'x')
	}
	return used
}

// told answers the text of a map.
func told(used []bool) string {
	var s strings.Builder
	for _, is := range used {
		if is {
			s.WriteByte('x')
		} else {
			s.WriteByte('.')
		}
	}
	return s.String()
}

// maps are all of at most so many places.
func maps(most int) [][]bool {
	all := [][]bool{nil}
	for from := 0; len(all[from]) < most; from++ {
		for _, is := range []bool{false, true} {
			all = append(all, append(slices.Clone(all[from]), is))
		}
	}
	return all
}

// wild are numbers that no map has places for.
func wild() []int {
	return []int{-1, -2, -64, math.MinInt32, -1 << 32, math.MinInt, math.MinInt + 1, math.MinInt + 4, math.MaxInt32, 1 << 32, 1<<32 + 1, 1 << 62, math.MaxInt - 4, math.MaxInt - 1, math.MaxInt}
}

// isRun tells whether there is a run of n at a place.
func isRun(used []bool, at, n int) bool {
	return at+n <= len(used) && !slices.Contains(used[at:at+n], true)
}

// first holds what First answers.
func first(t *testing.T, used []bool, n, at int, ok bool) {
	t.Helper()
	if i, is := space.First(used, n); i != at || is != ok {
		t.Errorf("First(%s, %d) = %d, %v: not %d, %v", told(used), n, i, is, at, ok)
	}
}

// mark marks, and holds that it goes well.
func mark(t *testing.T, used []bool, at, n int, is bool) []bool {
	t.Helper()
	out, e := space.Mark(used, at, n, is)
	if e != nil || len(out) != len(used) {
		t.Fatalf("Mark(%s, %d, %d, %v) = %s, %v", told(used), at, n, is, told(out), e)
	}
	return out
}

// refuse holds that nothing is marked.
func refuse(t *testing.T, used []bool, at, n int, is bool, want api.Errno) {
	t.Helper()
	ahead := slices.Clone(used)
	if out, e := space.Mark(used, at, n, is); len(out) != 0 || fail.Code(e) != int(want) {
		t.Errorf("Mark(%s, %d, %d, %v) = %s, %v: not %v", told(used), at, n, is, told(out), e, want)
	}
	if !slices.Equal(used, ahead) {
		t.Errorf("Mark(%s, %d, %d, %v) has left %s", told(ahead), at, n, is, told(used))
	}
}

// 6.1

func TestFirst(t *testing.T) {
	for _, c := range []struct {
		used  string
		n, at int
		ok    bool
	}{
		{"x..", 2, 1, true},
		{"x..", 1, 1, true},
		{"x..", 3, 0, false},
		{"...", 3, 0, true},
		{"...", 1, 0, true},
		{"...", 4, 0, false},
		{".", 1, 0, true},
		{".", 2, 0, false},
		{"x", 1, 0, false},
		{"xxx", 1, 0, false},
		{"", 1, 0, false},
		{"", 0, 0, false},
		{"...", 0, 0, false},
		{"x..", 0, 0, false},
		{"..x", 0, 0, false},
		{"...", -1, 0, false},
		{".x..x...", 1, 0, true},
		{".x..x...", 2, 2, true},
		{".x..x...", 3, 5, true},
		{".x..x...", 4, 0, false},
		{"...x..x.", 2, 0, true},
		{"..x...x...", 3, 3, true},
		{".x.x.x.", 2, 0, false},
		{"xxx.", 1, 3, true},
	} {
		first(t, places(c.used), c.n, c.at, c.ok)
	}
}

func TestFree(t *testing.T) {
	for s, want := range map[string]int{"": 0, "x": 0, ".": 1, "xxxx": 0, "....": 4, "x..x...": 5, ".x.x.": 3} {
		if n := space.Free(places(s)); n != want {
			t.Errorf("Free(%s) = %d, not %d", s, n, want)
		}
	}
}

func TestLongest(t *testing.T) {
	for s, want := range map[string]int{"": 0, "x": 0, ".": 1, "xxxx": 0, "....": 4, "x..x...": 3, "...x..x": 3, "x....x": 4, ".x.x.": 1, "..x..": 2} {
		if n := space.Longest(places(s)); n != want {
			t.Errorf("Longest(%s) = %d, not %d", s, n, want)
		}
	}
}

func TestOfNothing(t *testing.T) {
	for _, used := range [][]bool{nil, {}, make([]bool, 0, 8)} {
		if space.Free(used) != 0 || space.Longest(used) != 0 {
			t.Errorf("of nothing: %d free, the longest %d", space.Free(used), space.Longest(used))
		}
		for _, n := range append(wild(), 0, 1, 2) {
			first(t, used, n, 0, false)
		}
	}
}

func TestFirstOfWildNumbers(t *testing.T) {
	for _, s := range []string{".", "....", "x..x...", "xxx"} {
		for _, n := range append(wild(), 0) {
			first(t, places(s), n, 0, false)
		}
	}
}

// Each answer is held against each place, one by one.
func TestAllSmallMaps(t *testing.T) {
	for _, used := range maps(10) {
		free := 0
		for i := range used {
			if !used[i] {
				free++
			}
		}
		if n := space.Free(used); n != free {
			t.Fatalf("Free(%s) = %d", told(used), n)
		}
		longest := 0
		for n := 1; n <= len(used)+1; n++ {
			at := 0
			for at < len(used) && !isRun(used, at, n) {
				at++
			}
			if at == len(used) {
				first(t, used, n, 0, false)
				continue
			}
			longest = n
			first(t, used, n, at, true)
		}
		if n := space.Longest(used); n != longest {
			t.Fatalf("Longest(%s) = %d, not %d", told(used), n, longest)
		}
	}
}

func TestAskingChangesNothing(t *testing.T) {
	used := places("x..x...")
	for range 3 {
		first(t, used, 3, 4, true)
		if space.Free(used) != 5 || space.Longest(used) != 3 || told(used) != "x..x..." {
			t.Errorf("%s: %d free, the longest %d", told(used), space.Free(used), space.Longest(used))
		}
	}
}

// 6.2

func TestMark(t *testing.T) {
	for _, c := range []struct {
		used  string
		at, n int
		is    bool
		want  string
	}{
		{"x..x...", 4, 2, true, "x..xxx."},
		{"x..x...", 1, 2, true, "xxxx..."},
		{"x..x...", 0, 1, false, "...x..."},
		{"....", 0, 4, true, "xxxx"},
		{"xxxx", 0, 4, false, "...."},
		{"xxxx", 3, 1, false, "xxx."},
		{"xxxx", 1, 2, false, "x..x"},
		{".", 0, 1, true, "x"},
		// No places at all are none that are so already.
		{"x..x", 0, 0, true, "x..x"},
		{"x..x", 0, 0, false, "x..x"},
		{"x..x", 2, 0, false, "x..x"},
		{"x..x", 4, 0, true, "x..x"},
		{"", 0, 0, true, ""},
		{"", 0, 0, false, ""},
	} {
		if out := mark(t, places(c.used), c.at, c.n, c.is); told(out) != c.want {
			t.Errorf("Mark(%s, %d, %d, %v) = %s", c.used, c.at, c.n, c.is, told(out))
		}
	}
	if out, e := space.Mark(nil, 0, 0, true); len(out) != 0 || e != nil {
		t.Errorf("Mark of nothing = %v, %v", out, e)
	}
}

func TestMarkOutside(t *testing.T) {
	for _, s := range []string{"", ".", "x", "....", "xxxx", "x..x"} {
		used := places(s)
		for _, is := range []bool{false, true} {
			for _, x := range wild() {
				for _, y := range append(wild(), 0, 1, len(used), len(used)+1) {
					refuse(t, used, x, y, is, api.ErrArg)
					refuse(t, used, y, x, is, api.ErrArg)
				}
			}
			refuse(t, used, len(used)+1, 0, is, api.ErrArg)
			refuse(t, used, 0, len(used)+1, is, api.ErrArg)
			refuse(t, used, len(used), 1, is, api.ErrArg)
		}
	}
}

// At the end of the places ErrArg comes ahead of ErrState.
func TestMarkOutsideAheadOfState(t *testing.T) {
	refuse(t, places("..xx"), 2, 3, true, api.ErrArg)
	refuse(t, places("xx.."), 2, 3, false, api.ErrArg)
	refuse(t, places("xx.."), -1, 2, true, api.ErrArg)
}

// Spare room behind the places is none of them.
func TestMarkInSpareRoom(t *testing.T) {
	used := make([]bool, 4, 16)
	refuse(t, used, 3, 2, true, api.ErrArg)
	refuse(t, used, 5, 1, true, api.ErrArg)
	refuse(t, used, 5, 0, true, api.ErrArg)
}

func TestMarkWhatIsSo(t *testing.T) {
	refuse(t, places("x..x"), 0, 1, true, api.ErrState)
	refuse(t, places("x..x"), 0, 2, true, api.ErrState)
	refuse(t, places("x..x"), 1, 3, true, api.ErrState)
	refuse(t, places("x..x"), 0, 4, true, api.ErrState)
	refuse(t, places("x..x"), 1, 1, false, api.ErrState)
	refuse(t, places("x..x"), 2, 2, false, api.ErrState)
	refuse(t, places("..x.."), 0, 5, true, api.ErrState)
	refuse(t, places("xx.xx"), 0, 5, false, api.ErrState)
}

func TestMarkLeavesWhatIsHandedIn(t *testing.T) {
	for spare := range 20 {
		for _, c := range []struct{ at, n int }{{0, 0}, {1, 0}, {1, 1}, {1, 2}, {2, 1}, {4, 0}} {
			whole := append(places("x..x"), make([]bool, spare)...)
			for i := 4; i < len(whole); i++ {
				whole[i] = i%3 == 0
			}
			ahead := told(whole)
			out := mark(t, whole[:4], c.at, c.n, true)
			want := told(out)
			if told(whole) != ahead {
				t.Fatalf("Mark has left %s of %s", told(whole), ahead)
			}
			// Nothing that is done to the one is seen in the other.
			room := out[:cap(out)]
			for i := range room {
				room[i] = !room[i]
			}
			if told(whole) != ahead {
				t.Fatalf("the answer shares memory with what was handed in")
			}
			out = mark(t, whole[:4], c.at, c.n, true)
			for i := range whole {
				whole[i] = !whole[i]
			}
			if told(out) != want {
				t.Fatalf("the answer is kept in what was handed in")
			}
		}
	}
}

func TestMarkAnswersApart(t *testing.T) {
	used := places("....")
	one, two := mark(t, used, 0, 2, true), mark(t, used, 0, 2, true)
	one = append(one[:0], true, true, true, true)
	if told(one) != "xxxx" || told(two) != "xx.." || told(used) != "...." {
		t.Errorf("%s, %s, of %s", told(one), told(two), told(used))
	}
}

// Each place, each number of them and each way is held against the map, place
// by place; what was marked, and marked back, is as it was (6.3).
func TestMarkAllSmallMaps(t *testing.T) {
	for _, used := range maps(7) {
		for at := -1; at <= len(used)+1; at++ {
			for n := -1; n <= len(used)+1; n++ {
				for _, is := range []bool{false, true} {
					marked(t, used, at, n, is)
				}
			}
		}
	}
}

// marked holds what Mark answers.
func marked(t *testing.T, used []bool, at, n int, is bool) {
	t.Helper()
	if at < 0 || n < 0 || at+n > len(used) {
		refuse(t, used, at, n, is, api.ErrArg)
		return
	}
	want := slices.Clone(used)
	for i := at; i < at+n; i++ {
		if used[i] == is {
			refuse(t, used, at, n, is, api.ErrState)
			return
		}
		want[i] = is
	}
	out := mark(t, used, at, n, is)
	if !slices.Equal(out, want) {
		t.Errorf("Mark(%s, %d, %d, %v) = %s", told(used), at, n, is, told(out))
	}
	back := mark(t, out, at, n, !is)
	if !slices.Equal(back, used) {
		t.Errorf("Mark(%s, %d, %d, %v) marked back = %s", told(used), at, n, is, told(back))
	}
}

// 6.3

func TestRunJustIfLongest(t *testing.T) {
	for _, used := range maps(9) {
		for n := 1; n <= len(used)+2; n++ {
			if _, ok := space.First(used, n); ok != (space.Longest(used) >= n) {
				t.Fatalf("%s: a run of %d is %v, the longest %d", told(used), n, ok, space.Longest(used))
			}
		}
	}
}

// A disk's sectors are used up, run by run, and given back in another order.
func TestUsedUpAndGivenBack(t *testing.T) {
	type run struct{ at, n int }
	chance := rand.New(rand.NewSource(6))
	for range 20 {
		used := make([]bool, api.MaxDisk)
		for i := range used {
			used[i] = chance.Intn(10) == 0
		}
		ahead := slices.Clone(used)
		var runs []run
		for n := 12; n > 0; {
			at, ok := space.First(used, n)
			if !ok {
				n--
				continue
			}
			free := space.Free(used)
			used = mark(t, used, at, n, true)
			if space.Free(used) != free-n {
				t.Fatalf("%d free of %d, %d marked", space.Free(used), free, n)
			}
			runs = append(runs, run{at, n})
		}
		if space.Free(used) != 0 || space.Longest(used) != 0 {
			t.Fatalf("%d free", space.Free(used))
		}
		for _, i := range chance.Perm(len(runs)) {
			used = mark(t, used, runs[i].at, runs[i].n, false)
		}
		if !slices.Equal(used, ahead) {
			t.Fatalf("marked back, it is another map")
		}
	}
}

// A great map is gone through in one go, not once from each place on.
func TestGreatMap(t *testing.T) {
	used := make([]bool, 1<<22)
	used[1<<21] = true
	first(t, used, 1<<21, 0, true)
	if _, ok := space.First(used, 1<<21+1); ok {
		t.Errorf("First of a run that isn't there")
	}
	if space.Longest(used) != 1<<21 || space.Free(used) != 1<<22-1 {
		t.Errorf("%d free, the longest %d", space.Free(used), space.Longest(used))
	}
	out := mark(t, used, 0, 1<<21, true)
	if at, ok := space.First(out, 1); at != 1<<21+1 || !ok {
		t.Errorf("First = %d, %v", at, ok)
	}
}
