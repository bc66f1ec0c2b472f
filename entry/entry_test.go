package entry_test

import (
	"math"
	"math/rand"
	"slices"
	"strings"
	"testing"

	"shale/api"
	"shale/code"
	"shale/entry"
	"shale/fail"
	"shale/path"
)

// kinds are all that there are.
func kinds() []int {
	return []int{api.File, api.Dir, api.White, api.Opaque}
}

// wild are numbers of no kind; some would be one, if only their low bits counted.
func wild() []int {
	return []int{0, 5, 6, 127, 128, 129, 255, 256, 257, 258, 259, 260, -1, -2, -255, 1<<32 + 1, 1<<32 + 4,
		1 << 62, math.MinInt, math.MinInt + 1, math.MaxInt32, math.MaxInt - 1, math.MaxInt}
}

// deepest answers the longest path that there is.
func deepest() string {
	return strings.Repeat("/abcdefgh", api.MaxDepth)
}

// paths are some that an entry has.
func paths() []string {
	return []string{"/a", "/9", "/-", "/_", "/abcdefgh", "/a/b", "/a-/b", "/a/b/c/d/e/f", deepest()}
}

// nopaths are texts that no entry has as its path, the root's path among them.
func nopaths() []string {
	return []string{"", "/", "a", "a/b", "//", "/a/", "//a", "/a//b", "/A", "/a b", "/a.b", "/.", "/..", "/\x00", "/\xff", "/ä",
		"/abcdefghi", "/a/abcdefghi", "/a/b/c/d/e/f/g", deepest() + "a", deepest() + "/a", strings.Repeat("/a", 1<<16), strings.Repeat("a", 1<<16)}
}

// texts are data of each size that counts.
func texts() []string {
	return []string{"", "x", "hello", "\x00", "\xff\xfe", "/a", strings.Repeat("x", 127), strings.Repeat("\x80", 128), strings.Repeat("\x00", 255), strings.Repeat("y", api.MaxData)}
}

// long are data that a file has no room for.
func long() []string {
	return []string{strings.Repeat("x", api.MaxData+1), strings.Repeat("x", api.MaxData+2), strings.Repeat("x", 2*api.MaxData), strings.Repeat("x", 1<<16), strings.Repeat("x", 1<<16+1)}
}

// goods are right entries of each kind.
func goods() []api.Entry {
	var all []api.Entry
	for _, p := range paths() {
		for _, kind := range kinds() {
			all = append(all, api.Entry{Path: p, Kind: kind})
		}
		for _, s := range texts() {
			all = append(all, api.Entry{Path: p, Kind: api.File, Data: s})
		}
	}
	return all
}

// bads are entries that aren't right, in one thing each.
func bads() []api.Entry {
	all := []api.Entry{{}, {Kind: api.File}, {Path: "/a"}, {Path: "/a", Data: "x"}}
	for _, kind := range kinds() {
		for _, p := range nopaths() {
			all = append(all, api.Entry{Path: p, Kind: kind})
		}
		for _, s := range long() {
			all = append(all, api.Entry{Path: "/a", Kind: kind, Data: s})
		}
	}
	for _, kind := range wild() {
		all = append(all, api.Entry{Path: "/a", Kind: kind}, api.Entry{Path: "/a", Kind: kind, Data: "x"})
	}
	for _, kind := range []int{api.Dir, api.White, api.Opaque} {
		for _, s := range texts()[1:] {
			all = append(all, api.Entry{Path: "/a/b", Kind: kind, Data: s})
		}
	}
	return all
}

// bytes answers the bytes of an entry, right or not, by the chapter's words.
func bytes(e api.Entry) string {
	return string([]byte{byte(e.Kind)}) + code.Str(e.Path) + code.Str(e.Data)
}

// laid lays a right entry.
func laid(t *testing.T, e api.Entry) string {
	t.Helper()
	s, err := entry.Lay(e)
	if err != nil {
		t.Fatalf("Lay(%+v) = %v", e, err)
	}
	return s
}

// read reads an entry, and holds that it is e, and that left bytes are left.
func read(t *testing.T, r *code.Reader, e api.Entry, left int) {
	t.Helper()
	if got, err := entry.Read(r); got != e || err != nil {
		t.Errorf("Read = %+v, %v: not %+v", got, err, e)
	}
	if r.Left() != left {
		t.Errorf("behind Read of %+v %d bytes are left, not %d", e, r.Left(), left)
	}
}

// refuse holds that no entry is read of s, and answers the reader.
func refuse(t *testing.T, s string) *code.Reader {
	t.Helper()
	r := code.New(s)
	if got, err := entry.Read(r); got != (api.Entry{}) || fail.Code(err) != int(api.ErrForm) {
		t.Errorf("Read of %q = %+v, %v: not %v", s, got, err, api.ErrForm)
	}
	return r
}

// 8.1

func TestRight(t *testing.T) {
	for _, e := range goods() {
		if !entry.Right(e) {
			t.Errorf("Right(%+v) = false", e)
		}
	}
	for _, e := range bads() {
		if entry.Right(e) {
			t.Errorf("Right(%+v) = true", e)
		}
	}
}

func TestLay(t *testing.T) {
	for _, x := range []struct {
		e    api.Entry
		want string
	}{
		{api.Entry{Path: "/a", Kind: api.Dir}, "\x02\x02/a\x00"},
		{api.Entry{Path: "/a", Kind: api.File}, "\x01\x02/a\x00"},
		{api.Entry{Path: "/a/b", Kind: api.File, Data: "hello"}, "\x01\x04/a/b\x05hello"},
		{api.Entry{Path: "/a/b", Kind: api.White}, "\x03\x04/a/b\x00"},
		{api.Entry{Path: "/a", Kind: api.Opaque}, "\x04\x02/a\x00"},
		{api.Entry{Path: deepest(), Kind: api.File, Data: texts()[9]}, "\x01\x36" + deepest() + "\x80\x02" + texts()[9]},
	} {
		if s := laid(t, x.e); s != x.want {
			t.Errorf("Lay(%+v) = %q, not %q", x.e, s, x.want)
		}
	}
	for _, e := range goods() {
		if s := laid(t, e); s != bytes(e) {
			t.Errorf("Lay(%+v) = %q, not %q", e, s, bytes(e))
		}
	}
}

func TestLayRefused(t *testing.T) {
	for _, e := range bads() {
		if s, err := entry.Lay(e); s != "" || fail.Code(err) != int(api.ErrArg) {
			t.Errorf("Lay(%+v) = %q, %v: not %v", e, s, err, api.ErrArg)
		}
	}
}

func TestReadNext(t *testing.T) {
	all, s := goods(), ""
	for _, e := range all {
		s += bytes(e)
	}
	r, left := code.New(s), len(s)
	for _, e := range all {
		left -= len(bytes(e))
		read(t, r, e, left)
	}
	if got, err := entry.Read(r); got != (api.Entry{}) || fail.Code(err) != int(api.ErrForm) {
		t.Errorf("Read of nothing = %+v, %v: not %v", got, err, api.ErrForm)
	}
}

func TestReadNil(t *testing.T) {
	if got, err := entry.Read(nil); got != (api.Entry{}) || fail.Code(err) != int(api.ErrArg) {
		t.Errorf("Read(nil) = %+v, %v: not %v", got, err, api.ErrArg)
	}
}

func TestReadNone(t *testing.T) {
	for _, e := range goods() {
		s := bytes(e)
		for n := range len(s) {
			refuse(t, s[:n])
		}
	}
	endless := strings.Repeat("\xff", 16)
	for _, s := range []string{
		"\x81\x00\x02/a\x00",       // a kind in two bytes
		"\x81\x01\x02/a\x00",       // 129 in two bytes
		"\x02\x82\x00/a\x00",       // a size with a last digit of 0
		"\x02\x02/a\x80\x00",       // another
		"\x01\x02/a\x81\x00x",      // another
		endless,                    // digits that don't end
		"\x02" + endless,           //
		"\x02\x02/a" + endless,     //
		"\x01\x02/a\x02x",          // data that end early
		"\x01" + code.Num(1<<62),   // a path that does
		"\x01\x02/a\xff\xff\x03xx", // data of 65535 bytes that do
	} {
		refuse(t, s)
	}
}

func TestReadNotRight(t *testing.T) {
	for _, e := range bads() {
		if e.Kind < 0 || e.Kind > math.MaxUint8 {
			continue // no byte
		}
		refuse(t, bytes(e))
		refuse(t, bytes(e)+bytes(goods()[0]))
	}
	for kind := range 1 << 8 {
		if !slices.Contains(kinds(), kind) {
			refuse(t, bytes(api.Entry{Path: "/a", Kind: kind}))
		}
	}
}

func TestReadBehindRefused(t *testing.T) {
	next := api.Entry{Path: "/n", Kind: api.File, Data: "next"}
	for _, e := range bads() {
		if e.Kind < 0 || e.Kind > math.MaxInt8 {
			continue // not a number of one byte
		}
		r := refuse(t, bytes(e)+bytes(next))
		if r.Left() != len(bytes(next)) {
			t.Errorf("behind %+v %d bytes are left", e, r.Left())
			continue
		}
		read(t, r, next, 0)
	}
	// Of one that ends early, what is there is read.
	for s, left := range map[string]int{"": 0, "\x01": 0, "\x01\x02/": 2, "\x01\x02/a": 0, "\x01\x02/a\x02x": 2} {
		if r := refuse(t, s); r.Left() != left {
			t.Errorf("behind %q %d bytes are left, not %d", s, r.Left(), left)
		}
	}
}

// 8.2

func TestLess(t *testing.T) {
	rising := []string{"", "/", "/-", "/0", "/a", "/a-", "/a-/b", "/a/a", "/a/b", "/a/b/c", "/a/ba", "/a0", "/a_", "/aa", "/b", "a", "\x7f", "\x80", "\xff", "\xff\x00"}
	for i, a := range rising {
		for j, b := range rising {
			if less := entry.Less(api.Entry{Path: a}, api.Entry{Path: b}); less != (i < j) {
				t.Errorf("Less of %q and %q = %v", a, b, less)
			}
		}
	}
}

func TestLessOfPathsAlone(t *testing.T) {
	for _, one := range append(kinds(), wild()...) {
		for _, other := range kinds() {
			a, b := api.Entry{Path: "/a", Kind: one, Data: "x"}, api.Entry{Path: "/b", Kind: other, Data: "a"}
			if !entry.Less(a, b) || entry.Less(b, a) {
				t.Errorf("Less of %+v and %+v isn't told by their paths", a, b)
			}
			b.Path = a.Path
			if entry.Less(a, b) || entry.Less(b, a) {
				t.Errorf("Less of %+v and %+v, whose path is one", a, b)
			}
		}
	}
}

func TestHolds(t *testing.T) {
	for kind, want := range map[int]bool{api.File: false, api.Dir: true, api.White: false, api.Opaque: true} {
		for _, e := range []api.Entry{{Kind: kind}, {Path: "/a", Kind: kind}, {Path: "no path", Kind: kind, Data: "x"}} {
			if entry.Holds(e) != want {
				t.Errorf("Holds(%+v) = %v", e, !want)
			}
		}
	}
	for _, kind := range wild() {
		if entry.Holds(api.Entry{Path: "/a", Kind: kind}) {
			t.Errorf("Holds of kind %d = true", kind)
		}
	}
}

// 8.3

func TestThereAndBack(t *testing.T) {
	for _, e := range goods() {
		read(t, code.New(laid(t, e)), e, 0)
		read(t, code.New(laid(t, e)+"\xffmore"), e, 5)
	}
}

func TestNothingElseIsReadAsIt(t *testing.T) {
	dice := rand.New(rand.NewSource(8))
	for range 20000 {
		s := []byte(bytes(goods()[dice.Intn(20)]))
		for range 1 + dice.Intn(3) {
			s[dice.Intn(min(len(s), 12))] = byte(dice.Intn(256))
		}
		r := code.New(string(s))
		e, err := entry.Read(r)
		if err != nil {
			if e != (api.Entry{}) || fail.Code(err) != int(api.ErrForm) {
				t.Fatalf("Read of %q = %+v, %v", s, e, err)
			}
			continue
		}
		if got := laid(t, e); got != string(s[:len(s)-r.Left()]) {
			t.Fatalf("%q is read as %+v, whose bytes are %q", s, e, got)
		}
	}
}

func TestDirectoryAheadOfWhatIsUnder(t *testing.T) {
	all := append(paths(), "/a/a", "/a/b/c", "/a/b/c/d", "/a/b-", "/a/b-/c")
	met := 0
	for _, dir := range all {
		for _, p := range all {
			if !path.Under(p, dir) {
				continue
			}
			met++
			if a, b := (api.Entry{Path: dir, Kind: api.Dir}), (api.Entry{Path: p, Kind: api.File}); !entry.Less(a, b) || entry.Less(b, a) {
				t.Errorf("%s isn't less than %s", dir, p)
			}
		}
	}
	if met < 10 {
		t.Errorf("only %d pairs", met)
	}
}
