package tree_test

import (
	"maps"
	"math"
	"math/rand"
	"slices"
	"strings"
	"testing"

	"shale/api"
	"shale/fail"
	"shale/fold"
	"shale/path"
	"shale/tree"
)

// mostNodes is how many entries a tree may have, by chapter 10.
const mostNodes = 1024

// table is a list of entries.
type table = []api.Entry

// file and dir are entries of their kinds.
func file(p, data string) api.Entry { return api.Entry{Path: p, Kind: api.File, Data: data} }
func dir(p string) api.Entry        { return api.Entry{Path: p, Kind: api.Dir} }

// long is as much data as a file may have.
func long() string { return strings.Repeat("0123456789abcdef", api.MaxData/16) }

// sample is a tree: full and empty directories, full and empty files, names that begin alike.
func sample() table {
	return table{
		dir("/a"), file("/a-", "minus"), file("/a/b", "hello"), dir("/a/c"), dir("/a/d"), file("/a/d/e", ""), dir("/a/d/g"), file("/a0", "nought"),
		dir("/ab"), file("/ab/b", long()), dir("/e"), dir("/e-"), file("/e-/x", "1"), file("/f", "\x00\xffdata"), dir("/z"),
	}
}

// chain is a directory in a directory, as deep as they go, and a file.
func chain() table {
	return table{dir("/a"), dir("/a/b"), dir("/a/b/c"), dir("/a/b/c/d"), dir("/a/b/c/d/e"), file("/a/b/c/d/e/f", "deep")}
}

// numbered is n files of the root, their paths rising, ahead of /g.
func numbered(n int) table {
	var l table
	for i := range n {
		l = append(l, file("/f"+string([]byte{byte('a' + i/26/26), byte('a' + i/26%26), byte('a' + i%26)}), strings.Repeat("x", i%5)))
	}
	return l
}

// noTrees are lists that are no trees, in one thing each.
func noTrees() []table {
	return []table{
		{{}}, {{Path: "/a"}}, {dir("/")}, {dir("")}, {dir("a")}, {dir("/a/")}, {dir("/A")}, {dir("/abcdefghi")}, {file("/", "")},
		{{Path: "/a", Kind: api.White}}, {{Path: "/a", Kind: api.Opaque}}, {{Path: "/a", Kind: 5}}, {{Path: "/a", Kind: -1}}, {{Path: "/a", Kind: math.MaxInt}},
		{dir("/a"), {Path: "/b", Kind: api.White}}, {{Path: "/a", Kind: api.Opaque}, file("/a/b", "")},
		{{Path: "/a", Kind: api.Dir, Data: "x"}}, {file("/a", long()+"x")},
		{dir("/a"), dir("/a")}, {file("/a", "x"), file("/a", "y")}, {dir("/b"), dir("/a")}, {dir("/a"), file("/a/b", ""), dir("/a-")},
		{file("/a/b", "")}, {dir("/a"), file("/a/b/c", "")}, {dir("/a-"), file("/a/b", "")}, {file("/a", ""), file("/a/b", "")},
		append(chain()[:5], dir("/a/b/c/d/e/f"), dir("/a/b/c/d/e/f/g")),
		make(table, 1), make(table, mostNodes), numbered(mostNodes + 1), append(numbered(mostNodes), dir("/g")), numbered(4 * mostNodes),
	}
}

// noPaths are texts that are no paths.
func noPaths() []string {
	return []string{
		"", "a", "a/b", "//", "/a/", "/a//b", "//a", "/A", "/a/B", "/.", "/..", "/a/../a", "/ ", "/a b", "/a\x00", "/\xff", "/é", "\\a", "/abcdefghi", "/a/abcdefghi",
		"/a/b/c/d/e/f/g", "/1/2/3/4/5/6/7", " /a", "/a\n", strings.Repeat("/", 1<<16), "/" + strings.Repeat("a", 1<<16), strings.Repeat("/a", 1<<16),
	}
}

// act is a call: what is done, and its arguments.
type act struct {
	do   string
	p, q string
	n    int
	s    string
}

// reply is a call's answer.
type reply struct {
	tree  table
	names []string
	data  string
	kind  int
	code  int
}

// do makes a call.
func do(t table, a act) reply {
	var r reply
	var err error
	switch a.do {
	case "kind":
		r.kind, err = tree.Kind(t, a.p)
	case "read":
		r.data, err = tree.Read(t, a.p)
	case "list":
		r.names, err = tree.List(t, a.p)
	case "create":
		r.tree, err = tree.Create(t, a.p)
	case "mkdir":
		r.tree, err = tree.Mkdir(t, a.p)
	case "write":
		r.tree, err = tree.Write(t, a.p, a.n, a.s)
	case "cut":
		r.tree, err = tree.Cut(t, a.p, a.n)
	case "unlink":
		r.tree, err = tree.Unlink(t, a.p)
	case "rmdir":
		r.tree, err = tree.Rmdir(t, a.p)
	case "rename":
		r.tree, err = tree.Rename(t, a.p, a.q)
	}
	r.code = fail.Code(err)
	return r
}

// alike tells whether two answers are.
func alike(a, b reply) bool {
	return a.code == b.code && a.kind == b.kind && a.data == b.data && slices.Equal(a.names, b.names) && slices.Equal(a.tree, b.tree)
}

// hold holds that a call answers what is asked for.
func hold(t *testing.T, l table, a act, want reply) {
	t.Helper()
	if got := do(l, a); !alike(got, want) {
		t.Errorf("%+v of %d entries, %+v = %+v: not %+v", short(a), len(l), few(l), brief(got), brief(want))
	}
}

// refused holds that a call is, by an error and nothing beside it.
func refused(t *testing.T, l table, a act, code api.Errno) {
	t.Helper()
	hold(t, l, a, reply{code: int(code)})
}

// few, short and brief cut what is long, so that it can be told.
func few(l table) table { return l[:min(len(l), 12)] }
func short(a act) act {
	a.p, a.q, a.s = a.p[:min(len(a.p), 70)], a.q[:min(len(a.q), 70)], a.s[:min(len(a.s), 20)]
	return a
}
func brief(r reply) reply {
	r.tree = few(r.tree)
	return r
}

// edits are all calls that answer a tree, of a path; all are these and the others.
func edits(p string) []act {
	return []act{
		{do: "create", p: p}, {do: "mkdir", p: p}, {do: "write", p: p, s: "x"}, {do: "cut", p: p}, {do: "unlink", p: p}, {do: "rmdir", p: p},
		{do: "rename", p: p, q: "/new"},
	}
}
func all(p string) []act {
	return append(edits(p), act{do: "kind", p: p}, act{do: "read", p: p}, act{do: "list", p: p})
}

// changed answers a tree with some entries more, and others less.
func changed(l table, gone []string, more ...api.Entry) table {
	l = slices.DeleteFunc(slices.Clone(l), func(e api.Entry) bool { return slices.Contains(gone, e.Path) })
	l = append(l, more...)
	slices.SortFunc(l, func(a, b api.Entry) int { return strings.Compare(a.Path, b.Path) })
	return l
}

// node is the model's: a file, or a directory with what is in it by names.
type node struct {
	data string
	kids map[string]*node
}

// grown answers the model of a tree.
func grown(l table) *node {
	top := &node{kids: map[string]*node{}}
	for _, e := range l {
		in, name, _ := path.Parent(e.Path)
		n := &node{data: e.Data}
		if e.Kind == api.Dir {
			n.kids = map[string]*node{}
		}
		top.at(in).kids[name] = n
	}
	return top
}

// at answers what lies at a path, nil of nothing.
func (n *node) at(p string) *node {
	names, _ := path.Split(p)
	for _, name := range names {
		if n != nil {
			n = n.kids[name]
		}
	}
	return n
}

// listed answers the model's tree, under a path.
func (n *node) listed(p string) table {
	var l table
	for name, kid := range n.kids {
		e := file(p+"/"+name, kid.data)
		if kid.kids != nil {
			e = dir(e.Path)
		}
		l = append(append(l, e), kid.listed(e.Path)...)
	}
	slices.SortFunc(l, func(a, b api.Entry) int { return strings.Compare(a.Path, b.Path) })
	return l
}

// refusal answers the error of an entry of the model that is asked for, 0 of none.
func (n *node) refusal(p string, isDir, root bool) api.Errno {
	switch x := n.at(p); {
	case path.Deep(p) < 0:
		return api.ErrPath
	case p == "/" && !root:
		return api.ErrArg
	case x == nil:
		return api.ErrNone
	case x.kids != nil && !isDir:
		return api.ErrDir
	case x.kids == nil && isDir:
		return api.ErrNotDir
	}
	return 0
}

// taken answers the error of a place of the model at which something is to come to be.
func (n *node) taken(p string) api.Errno {
	if path.Deep(p) < 0 {
		return api.ErrPath
	}
	if p == "/" {
		return api.ErrArg
	}
	in, _, _ := path.Parent(p)
	switch x := n.at(in); {
	case x == nil:
		return api.ErrNone
	case x.kids == nil:
		return api.ErrNotDir
	case n.at(p) != nil:
		return api.ErrExists
	}
	return 0
}

// model answers by the chapter's words, on what nodes are of a tree.
func model(l table, a act) reply {
	top := grown(l)
	x := top.at(a.p)
	in, name, _ := path.Parent(a.p)
	var code api.Errno
	switch a.do {
	case "kind":
		if code = top.refusal(a.p, false, true); code == 0 {
			return reply{kind: api.File}
		} else if code == api.ErrDir {
			return reply{kind: api.Dir}
		}
	case "read":
		if code = top.refusal(a.p, false, true); code == 0 {
			return reply{data: x.data}
		}
	case "list":
		if code = top.refusal(a.p, true, true); code == 0 {
			return reply{names: slices.Sorted(maps.Keys(x.kids))}
		}
	case "create", "mkdir":
		if code = top.taken(a.p); code == 0 {
			n := &node{}
			if a.do == "mkdir" {
				n.kids = map[string]*node{}
			}
			top.at(in).kids[name] = n
			if len(l) == mostNodes {
				code = api.ErrSpace
			}
		}
	case "write":
		if code = top.refusal(a.p, false, false); code == 0 {
			code = written(x, a.n, a.s)
		}
	case "cut":
		if code = top.refusal(a.p, false, false); code == 0 && (a.n < 0 || a.n > api.MaxData) {
			code = api.ErrSize
		} else if code == 0 {
			x.data = (x.data + strings.Repeat("\x00", a.n))[:a.n]
		}
	case "unlink", "rmdir":
		if code = top.refusal(a.p, a.do == "rmdir", false); code == 0 && len(x.kids) > 0 {
			code = api.ErrFull
		} else if code == 0 {
			delete(top.at(in).kids, name)
		}
	case "rename":
		if code = top.refusal(a.p, false, false); code == 0 {
			code = top.taken(a.q)
		}
		if code == 0 {
			to, last, _ := path.Parent(a.q)
			top.at(to).kids[last] = x
			delete(top.at(in).kids, name)
		}
	}
	if code != 0 {
		return reply{code: int(code)}
	}
	return reply{tree: top.listed("")}
}

// written writes into the model's file, byte by byte.
func written(x *node, at int, s string) api.Errno {
	if at < 0 || at > api.MaxData || len(s) > api.MaxData-at {
		return api.ErrSize
	}
	data := []byte(x.data)
	for len(data) < at {
		data = append(data, 0)
	}
	for i := range len(s) {
		if at+i == len(data) {
			data = append(data, 0)
		}
		data[at+i] = s[i]
	}
	x.data = string(data)
	return 0
}

// small answers all trees that have nothing but entries at /a, /a/b, /a/b/c and /ab.
func small() []table {
	all := []table{nil}
	for _, p := range []string{"/a", "/a/b", "/a/b/c", "/ab"} {
		var next []table
		for _, l := range all {
			next = append(next, l)
			for _, e := range []api.Entry{dir(p), file(p, "of"+p)} {
				if with := append(slices.Clone(l), e); fold.Tree(with) {
					next = append(next, with)
				}
			}
		}
		all = next
	}
	return all
}

// 11.1: of what is no tree.

func TestOfNoTree(t *testing.T) {
	for _, l := range noTrees() {
		for _, p := range []string{"/a", "/b", "/a/b", "/faaa", "/", "", "a", "/x/y"} {
			for _, a := range all(p) {
				refused(t, l, a, api.ErrState)
			}
			refused(t, l, act{do: "write", p: p, n: -1}, api.ErrState)
			refused(t, l, act{do: "cut", p: p, n: -1}, api.ErrState)
			refused(t, l, act{do: "rename", p: p, q: "/"}, api.ErrState)
			refused(t, l, act{do: "rename", p: p, q: p}, api.ErrState)
		}
	}
}

// 11.1: Kind, Read, List.

func TestKind(t *testing.T) {
	for p, want := range map[string]int{
		"/": api.Dir, "/a": api.Dir, "/a/b": api.File, "/a/c": api.Dir, "/a/d/e": api.File, "/a/d/g": api.Dir, "/a-": api.File, "/f": api.File, "/z": api.Dir,
	} {
		hold(t, sample(), act{do: "kind", p: p}, reply{kind: want})
	}
	// Under a file nothing lies, nor where a directory is missing.
	for _, p := range []string{"/b", "/a/a", "/a/b/c", "/a/b/c/d", "/x/y", "/x/y/z", "/aa", "/a-/b", "/a/d/e/f", "/1/2/3/4/5/6", "/zz"} {
		refused(t, sample(), act{do: "kind", p: p}, api.ErrNone)
	}
	hold(t, nil, act{do: "kind", p: "/"}, reply{kind: api.Dir})
	hold(t, table{}, act{do: "kind", p: "/"}, reply{kind: api.Dir})
	refused(t, nil, act{do: "kind", p: "/a"}, api.ErrNone)
	hold(t, chain(), act{do: "kind", p: "/a/b/c/d/e/f"}, reply{kind: api.File})
}

func TestRead(t *testing.T) {
	for p, want := range map[string]string{"/a/b": "hello", "/a/d/e": "", "/a-": "minus", "/a0": "nought", "/ab/b": long(), "/f": "\x00\xffdata"} {
		hold(t, sample(), act{do: "read", p: p}, reply{data: want})
	}
	for _, p := range []string{"/", "/a", "/a/c", "/a/d", "/e", "/z"} {
		refused(t, sample(), act{do: "read", p: p}, api.ErrDir)
	}
	for _, p := range []string{"/b", "/a/a", "/a/b/c", "/x/y", "/a/d/e/f"} {
		refused(t, sample(), act{do: "read", p: p}, api.ErrNone)
	}
	refused(t, nil, act{do: "read", p: "/"}, api.ErrDir)
}

func TestList(t *testing.T) {
	for p, want := range map[string][]string{
		"/": {"a", "a-", "a0", "ab", "e", "e-", "f", "z"}, "/a": {"b", "c", "d"}, "/a/c": nil, "/a/d": {"e", "g"}, "/a/d/g": nil, "/ab": {"b"}, "/e": nil, "/e-": {"x"}, "/z": nil,
	} {
		hold(t, sample(), act{do: "list", p: p}, reply{names: want})
	}
	for _, p := range []string{"/a-", "/a/b", "/a/d/e", "/f"} {
		refused(t, sample(), act{do: "list", p: p}, api.ErrNotDir)
	}
	for _, p := range []string{"/b", "/a/a", "/a/b/c", "/x/y", "/f/x"} {
		refused(t, sample(), act{do: "list", p: p}, api.ErrNone)
	}
	hold(t, nil, act{do: "list", p: "/"}, reply{})
	hold(t, chain(), act{do: "list", p: "/a/b/c/d/e"}, reply{names: []string{"f"}})
	refused(t, chain(), act{do: "list", p: "/a/b/c/d/e/f"}, api.ErrNotDir)
	// Other things stand between the names of one directory.
	mixed := table{dir("/d"), dir("/d/a"), dir("/d/a-"), file("/d/a-/x", ""), file("/d/a/x", ""), file("/d/a0", ""), file("/d/z", ""), file("/d-", "")}
	slices.SortFunc(mixed, func(a, b api.Entry) int { return strings.Compare(a.Path, b.Path) })
	hold(t, mixed, act{do: "list", p: "/d"}, reply{names: []string{"a", "a-", "a0", "z"}})
	hold(t, mixed, act{do: "list", p: "/"}, reply{names: []string{"d", "d-"}})
}

func TestListOfMany(t *testing.T) {
	var want []string
	for _, e := range numbered(mostNodes) {
		want = append(want, e.Path[1:])
	}
	hold(t, numbered(mostNodes), act{do: "list", p: "/"}, reply{names: want})
}

// 11.1 to 11.3: paths that are none.

func TestOfNoPath(t *testing.T) {
	for _, l := range []table{nil, sample(), chain(), numbered(mostNodes)} {
		for _, p := range noPaths() {
			for _, a := range all(p) {
				refused(t, l, a, api.ErrPath)
			}
			refused(t, l, act{do: "write", p: p, n: -1}, api.ErrPath)
			refused(t, l, act{do: "cut", p: p, n: api.MaxData + 1}, api.ErrPath)
		}
	}
	for _, p := range noPaths() {
		refused(t, sample(), act{do: "rename", p: "/f", q: p}, api.ErrPath)
	}
}

// 11.2, 11.3: the root.

func TestOfRoot(t *testing.T) {
	for _, l := range []table{nil, sample(), numbered(mostNodes)} {
		for _, a := range edits("/") {
			refused(t, l, a, api.ErrArg)
		}
		refused(t, l, act{do: "write", p: "/", n: -1}, api.ErrArg)
		refused(t, l, act{do: "cut", p: "/", n: -1}, api.ErrArg)
		refused(t, l, act{do: "rename", p: "/", q: "/"}, api.ErrArg)
		refused(t, l, act{do: "rename", p: "/", q: "no path"}, api.ErrArg)
	}
	refused(t, sample(), act{do: "rename", p: "/f", q: "/"}, api.ErrArg)
}

// 11.2: Create, Mkdir.

func TestCreateAndMkdir(t *testing.T) {
	for _, p := range []string{"/0", "/a/a", "/a/c/x", "/a/d/f", "/a1", "/aa", "/e/x", "/zz", "/a/d/g/h", "/-", "/_", "/abcdefgh", "/a/bb"} {
		hold(t, sample(), act{do: "create", p: p}, reply{tree: changed(sample(), nil, file(p, ""))})
		hold(t, sample(), act{do: "mkdir", p: p}, reply{tree: changed(sample(), nil, dir(p))})
	}
	hold(t, nil, act{do: "create", p: "/a"}, reply{tree: table{file("/a", "")}})
	hold(t, table{}, act{do: "mkdir", p: "/a"}, reply{tree: table{dir("/a")}})
	for n := range chain() {
		e := chain()[n]
		hold(t, chain()[:n], act{do: "mkdir", p: e.Path}, reply{tree: append(chain()[:n], dir(e.Path))})
		hold(t, chain()[:n], act{do: "create", p: e.Path}, reply{tree: append(chain()[:n], file(e.Path, ""))})
	}
}

func TestCreateAndMkdirRefused(t *testing.T) {
	refused(t, nil, act{do: "create", p: "/a/b"}, api.ErrNone) // the chapter's example
	for _, what := range []string{"create", "mkdir"} {
		for p, code := range map[string]api.Errno{
			// The directory isn't there; a file's own can't be, so that under it nothing lies.
			"/x/y": api.ErrNone, "/x/y/z": api.ErrNone, "/a/x/y": api.ErrNone, "/a/b/c/d": api.ErrNone, "/f/x/y": api.ErrNone, "/1/2/3/4/5/6": api.ErrNone,
			// It is a file.
			"/a/b/c": api.ErrNotDir, "/f/x": api.ErrNotDir, "/a-/b": api.ErrNotDir, "/a/d/e/f": api.ErrNotDir,
			// Something lies there.
			"/a": api.ErrExists, "/a-": api.ErrExists, "/a/b": api.ErrExists, "/a/c": api.ErrExists, "/a/d/e": api.ErrExists, "/z": api.ErrExists,
		} {
			refused(t, sample(), act{do: what, p: p}, code)
		}
	}
}

// 11.2: Unlink, Rmdir.

func TestUnlink(t *testing.T) {
	for _, p := range []string{"/a-", "/a/b", "/a/d/e", "/a0", "/ab/b", "/e-/x", "/f"} {
		hold(t, sample(), act{do: "unlink", p: p}, reply{tree: changed(sample(), []string{p})})
	}
	hold(t, table{file("/a", "x")}, act{do: "unlink", p: "/a"}, reply{})
	for _, p := range []string{"/a", "/a/c", "/a/d", "/ab", "/e", "/z"} {
		refused(t, sample(), act{do: "unlink", p: p}, api.ErrDir)
	}
	for _, p := range []string{"/b", "/a/a", "/a/b/c", "/a/b/c/d", "/x/y", "/a/d/e/f"} {
		refused(t, sample(), act{do: "unlink", p: p}, api.ErrNone)
	}
}

func TestRmdir(t *testing.T) {
	for _, p := range []string{"/a/c", "/a/d/g", "/e", "/z"} {
		hold(t, sample(), act{do: "rmdir", p: p}, reply{tree: changed(sample(), []string{p})})
	}
	hold(t, table{dir("/a")}, act{do: "rmdir", p: "/a"}, reply{})
	hold(t, table{dir("/a"), dir("/a-"), file("/a-/b", ""), dir("/ab")}, act{do: "rmdir", p: "/a"}, reply{tree: table{dir("/a-"), file("/a-/b", ""), dir("/ab")}})
	for _, p := range []string{"/a", "/a/d", "/ab", "/e-"} {
		refused(t, sample(), act{do: "rmdir", p: p}, api.ErrFull)
	}
	for n := range chain()[:5] {
		refused(t, chain(), act{do: "rmdir", p: chain()[n].Path}, api.ErrFull)
	}
	for _, p := range []string{"/a-", "/a/b", "/a/d/e", "/f"} {
		refused(t, sample(), act{do: "rmdir", p: p}, api.ErrNotDir)
	}
	for _, p := range []string{"/b", "/a/a", "/a/b/c", "/x/y", "/ee"} {
		refused(t, sample(), act{do: "rmdir", p: p}, api.ErrNone)
	}
}

// 11.3: Write.

func TestWrite(t *testing.T) {
	write := func(old string, at int, s, want string) {
		t.Helper()
		l := table{file("/a", "other"), dir("/d"), file("/d/f", old), file("/e", "another")}
		hold(t, l, act{do: "write", p: "/d/f", n: at, s: s}, reply{tree: table{l[0], l[1], file("/d/f", want), l[3]}})
	}
	write("", 0, "", "")
	write("", 0, "abc", "abc")
	write("", 2, "hey", "\x00\x00hey")
	write("hello", 0, "J", "Jello")
	write("hello", 1, "ip", "hiplo")
	write("hello", 3, "p!", "help!")
	write("hello", 4, "!!", "hell!!")
	write("hello", 5, " you", "hello you")
	write("hello", 6, "you", "hello\x00you")
	write("hello", 0, "", "hello")
	write("hello", 3, "", "hello")
	write("hello", 5, "", "hello")
	// Without bytes to write the zero bytes come all the same.
	write("hello", 7, "", "hello\x00\x00")
	write("", 3, "", "\x00\x00\x00")
	write("hello", 0, "good morning", "good morning")
	write("a\x00b", 1, "\xff\x00", "a\xff\x00")
	// The ends of what a file may have.
	write("", api.MaxData, "", strings.Repeat("\x00", api.MaxData))
	write("x", api.MaxData-1, "y", "x"+strings.Repeat("\x00", api.MaxData-2)+"y")
	write("x", 0, long(), long())
	write(long(), 0, "", long())
	write(long(), api.MaxData, "", long())
	write(long(), api.MaxData-1, "!", long()[:api.MaxData-1]+"!")
	write(long(), 100, "middle", long()[:100]+"middle"+long()[106:])
	write("", 1, long()[1:], "\x00"+long()[1:])
}

// wild are numbers that no size may be.
func wild() []int {
	return []int{-1, -2, -256, api.MaxData + 1, 1000, math.MaxInt32, math.MinInt32, math.MaxInt, math.MinInt, math.MaxInt - 1, math.MaxInt - 255, math.MinInt + 256}
}

func TestWriteRefused(t *testing.T) {
	for _, n := range wild() {
		for _, s := range []string{"", "x", long()} {
			refused(t, sample(), act{do: "write", p: "/f", n: n, s: s}, api.ErrSize)
		}
	}
	refused(t, sample(), act{do: "write", p: "/f", n: 0, s: long() + "x"}, api.ErrSize)
	refused(t, sample(), act{do: "write", p: "/f", n: 1, s: long()}, api.ErrSize)
	refused(t, sample(), act{do: "write", p: "/f", n: api.MaxData, s: "x"}, api.ErrSize)
	refused(t, sample(), act{do: "write", p: "/f", n: 250, s: "1234567"}, api.ErrSize)
	refused(t, sample(), act{do: "write", p: "/f", n: -1, s: "x"}, api.ErrSize)
	refused(t, sample(), act{do: "write", p: "/f", n: -300, s: strings.Repeat("x", 300)}, api.ErrSize)
	refused(t, sample(), act{do: "write", p: "/f", n: 0, s: strings.Repeat("x", 1<<20)}, api.ErrSize)
}

// 11.3: Cut.

func TestCut(t *testing.T) {
	cut := func(old string, n int, want string) {
		t.Helper()
		l := table{file("/a", "other"), dir("/d"), file("/d/f", old), file("/e", "another")}
		hold(t, l, act{do: "cut", p: "/d/f", n: n}, reply{tree: table{l[0], l[1], file("/d/f", want), l[3]}})
	}
	cut("", 0, "")
	cut("", 3, "\x00\x00\x00")
	cut("hello", 0, "")
	cut("hello", 4, "hell")
	cut("hello", 5, "hello")
	cut("hello", 6, "hello\x00")
	cut("hello", api.MaxData, "hello"+strings.Repeat("\x00", api.MaxData-5))
	cut(long(), api.MaxData, long())
	cut(long(), api.MaxData-1, long()[:api.MaxData-1])
	cut(long(), 0, "")
	for _, n := range wild() {
		refused(t, sample(), act{do: "cut", p: "/f", n: n}, api.ErrSize)
	}
}

func TestWriteAndCutOfOthers(t *testing.T) {
	// Whether the size is right is asked last.
	for _, n := range append(wild(), 0, 1, api.MaxData) {
		for _, what := range []string{"write", "cut"} {
			for _, p := range []string{"/a", "/a/c", "/a/d", "/e", "/z"} {
				refused(t, sample(), act{do: what, p: p, n: n}, api.ErrDir)
			}
			for _, p := range []string{"/b", "/a/a", "/a/b/c", "/a/b/c/d", "/x/y", "/a/d/e/f"} {
				refused(t, sample(), act{do: what, p: p, n: n}, api.ErrNone)
			}
		}
	}
}

// 11.3: Rename.

func TestRename(t *testing.T) {
	for _, from := range []string{"/a-", "/a/b", "/a/d/e", "/a0", "/ab/b", "/f"} {
		data, _ := tree.Read(sample(), from)
		for _, to := range []string{"/0", "/a/a", "/a/bb", "/a/c/x", "/a/d/f", "/a1", "/aa", "/e/x", "/zz", "/a/d/g/h"} {
			hold(t, sample(), act{do: "rename", p: from, q: to}, reply{tree: changed(sample(), []string{from}, file(to, data))})
		}
	}
	hold(t, table{file("/a", "x")}, act{do: "rename", p: "/a", q: "/b"}, reply{tree: table{file("/b", "x")}})
	hold(t, table{file("/b", "x")}, act{do: "rename", p: "/b", q: "/a"}, reply{tree: table{file("/a", "x")}})
	hold(t, chain(), act{do: "rename", p: "/a/b/c/d/e/f", q: "/f"}, reply{tree: append(chain()[:5], file("/f", "deep"))})
	hold(t, append(chain()[:5], file("/f", "up")), act{do: "rename", p: "/f", q: "/a/b/c/d/e/0"}, reply{tree: append(chain()[:5], file("/a/b/c/d/e/0", "up"))})
}

func TestRenameRefused(t *testing.T) {
	// The first path's errors are ahead of the second one's.
	for _, to := range []string{"/new", "", "/", "/x/y", "/f/x", "/f", "/a"} {
		for _, from := range []string{"/a", "/a/c", "/e", "/z"} {
			refused(t, sample(), act{do: "rename", p: from, q: to}, api.ErrDir)
		}
		for _, from := range []string{"/b", "/a/a", "/a/b/c", "/a/b/c/d", "/x/y"} {
			refused(t, sample(), act{do: "rename", p: from, q: to}, api.ErrNone)
		}
		refused(t, sample(), act{do: "rename", p: "/", q: to}, api.ErrArg)
		refused(t, sample(), act{do: "rename", p: "f", q: to}, api.ErrPath)
	}
	for to, code := range map[string]api.Errno{
		"": api.ErrPath, "f": api.ErrPath, "/f/": api.ErrPath, "/": api.ErrArg, "/x/y": api.ErrNone, "/a/x/y": api.ErrNone, "/a/b/c/d": api.ErrNone,
		"/a/b/c": api.ErrNotDir, "/a-/x": api.ErrNotDir, "/a": api.ErrExists, "/a/b": api.ErrExists, "/a/c": api.ErrExists, "/z": api.ErrExists,
		// It lies at its own place, and isn't a directory itself.
		"/f": api.ErrExists, "/f/x": api.ErrNotDir, "/f/x/y": api.ErrNone,
	} {
		refused(t, sample(), act{do: "rename", p: "/f", q: to}, code)
	}
}

// 11.3: trees as great as they may be.

func TestSpace(t *testing.T) {
	full, near := numbered(mostNodes), numbered(mostNodes-1)
	hold(t, near, act{do: "create", p: "/g"}, reply{tree: append(slices.Clone(near), file("/g", ""))})
	hold(t, near, act{do: "mkdir", p: "/0"}, reply{tree: append(table{dir("/0")}, near...)})
	for _, what := range []string{"create", "mkdir"} {
		refused(t, full, act{do: what, p: "/g"}, api.ErrSpace)
		refused(t, full, act{do: what, p: "/0"}, api.ErrSpace)
		// It is named last.
		refused(t, full, act{do: what, p: full[7].Path}, api.ErrExists)
		refused(t, full, act{do: what, p: full[7].Path + "/x"}, api.ErrNotDir)
		refused(t, full, act{do: what, p: "/x/y"}, api.ErrNone)
		refused(t, full, act{do: what, p: "/"}, api.ErrArg)
		refused(t, full, act{do: what, p: "g"}, api.ErrPath)
	}
	// As many as there were, or fewer.
	hold(t, full, act{do: "rename", p: full[0].Path, q: "/g"}, reply{tree: append(slices.Clone(full[1:]), file("/g", full[0].Data))})
	hold(t, full, act{do: "rename", p: full[mostNodes-1].Path, q: "/0"}, reply{tree: append(table{file("/0", full[mostNodes-1].Data)}, full[:mostNodes-1]...)})
	hold(t, full, act{do: "unlink", p: full[500].Path}, reply{tree: slices.Concat(full[:500], full[501:])})
	hold(t, full, act{do: "write", p: full[500].Path, s: "new"}, reply{tree: slices.Concat(full[:500], table{file(full[500].Path, "new")}, full[501:])})
	hold(t, full, act{do: "cut", p: full[501].Path, n: 0}, reply{tree: slices.Concat(full[:501], table{file(full[501].Path, "")}, full[502:])})
	hold(t, append(numbered(mostNodes-1), dir("/g")), act{do: "rmdir", p: "/g"}, reply{tree: near})
}

// All calls, held against the model.

// manyPaths are paths that small trees have something at, or near, and texts that are none.
func manyPaths() []string {
	return []string{"/", "/a", "/a/b", "/a/b/c", "/ab", "/a/c", "/a/b/c/d", "/a/b/c/d/e", "/ab/c", "/ab/c/d", "/x", "/x/y", "/a-", "", "a", "/a/", "/A", "/1/2/3/4/5/6/7"}
}

func TestAsModel(t *testing.T) {
	trees := append(small(), sample(), chain())
	if len(trees) != 23 {
		t.Fatalf("%d trees", len(trees))
	}
	for _, l := range trees {
		for _, p := range manyPaths() {
			acts := all(p)
			for _, q := range manyPaths() {
				acts = append(acts, act{do: "rename", p: p, q: q})
			}
			for _, n := range append(wild(), 0, 1, 2, 5, 6, 255, 256) {
				acts = append(acts, act{do: "cut", p: p, n: n})
				for _, s := range []string{"", "x", long()[:250], long(), long() + "x"} {
					acts = append(acts, act{do: "write", p: p, n: n, s: s})
				}
			}
			for _, a := range acts {
				hold(t, l, a, model(l, a))
			}
		}
	}
}

// 11.4

// some answers a call at random, of paths that are often there.
func some(r *rand.Rand) act {
	names := []string{"a", "b", "ab", "a-", "a0"}
	at := func() string {
		if r.Intn(50) == 0 {
			return manyPaths()[r.Intn(len(manyPaths()))]
		}
		p := ""
		for range 1 + r.Intn(3) {
			p += "/" + names[r.Intn(len(names))]
		}
		return p
	}
	deeds := []string{"kind", "read", "list", "create", "create", "mkdir", "mkdir", "mkdir", "write", "write", "cut", "unlink", "rmdir", "rename", "rename"}
	return act{do: deeds[r.Intn(len(deeds))], p: at(), q: at(), n: r.Intn(270) - 5, s: long()[:r.Intn(40)]}
}

func TestWhatComesIsTree(t *testing.T) {
	r := rand.New(rand.NewSource(11))
	went := map[string]int{}
	for range 100 {
		var l table
		for range 300 {
			a := some(r)
			was := slices.Clone(l)
			got, want := do(l, a), model(l, a)
			if !alike(got, want) {
				t.Fatalf("%+v of %+v = %+v: not %+v", a, l, got, want)
			}
			if !fold.Tree(got.tree) {
				t.Fatalf("%+v of %+v is no tree: %+v", a, l, got.tree)
			}
			if !slices.Equal(l, was) {
				t.Fatalf("%+v changed %+v to %+v", a, was, l)
			}
			if got.code == 0 {
				went[a.do]++
			}
			if got.code == 0 && a.do != "kind" && a.do != "read" && a.do != "list" {
				l = got.tree
			}
		}
	}
	for _, a := range all("/a") {
		if went[a.do] < 50 {
			t.Errorf("%s went well but %d times", a.do, went[a.do])
		}
	}
}

func TestWhatIsWrittenIsRead(t *testing.T) {
	l := table{file("/a", "x"), dir("/d"), file("/d/f", long()[:100]), file("/z", "y")}
	for at := range api.MaxData + 1 {
		for n := range api.MaxData + 2 {
			s := strings.Repeat("s", n)
			came, err := tree.Write(l, "/d/f", at, s)
			if at+n > api.MaxData {
				if fail.Code(err) != int(api.ErrSize) || len(came) != 0 {
					t.Fatalf("Write of %d at %d: %v", n, at, err)
				}
				continue
			}
			got, e := tree.Read(came, "/d/f")
			if err != nil || e != nil || len(got) != max(100, at+n) || got[at:at+n] != s {
				t.Fatalf("Write of %d at %d, Read: %v, %v, %q", n, at, err, e, got)
			}
		}
	}
}

func TestThereAndBack(t *testing.T) {
	for _, p := range []string{"/0", "/a/a", "/a/d/f", "/zz"} {
		for _, way := range [][]act{
			{{do: "create", p: p}, {do: "unlink", p: p}}, {{do: "mkdir", p: p}, {do: "rmdir", p: p}}, {{do: "rename", p: "/f", q: p}, {do: "rename", p: p, q: "/f"}},
		} {
			once := do(sample(), way[0])
			if twice := do(once.tree, way[1]); once.code != 0 || !alike(twice, reply{tree: sample()}) {
				t.Errorf("%+v: %+v", way, twice)
			}
		}
	}
}

// Memory: what is handed in isn't changed or kept, what is handed out is new.

// roomy answers l with spare room behind it, and the whole of that, to be held later on.
func roomy(l table) (table, table) {
	whole := append(slices.Clone(l), file("/spare", "1"), file("/room", "2"), file("/here", "3"))
	return whole[:len(l)], whole
}

// spoil fills a list with others, spare room included.
func spoil(l table) {
	l = l[:cap(l)]
	for i := range l {
		l[i] = api.Entry{Path: "spoilt", Kind: -7, Data: "spoilt"}
	}
}

func TestGivesNewMemory(t *testing.T) {
	acts := []act{
		{do: "kind", p: "/f"}, {do: "read", p: "/f"}, {do: "list", p: "/"}, {do: "list", p: "/a"}, {do: "create", p: "/zz"}, {do: "create", p: "/a/a"}, {do: "mkdir", p: "/0"},
		{do: "write", p: "/f", n: 2, s: "new"}, {do: "write", p: "/f"}, {do: "cut", p: "/f", n: 3}, {do: "cut", p: "/f", n: 6}, {do: "unlink", p: "/f"}, {do: "unlink", p: "/a-"},
		{do: "rmdir", p: "/z"}, {do: "rmdir", p: "/e"}, {do: "rename", p: "/f", q: "/0"}, {do: "rename", p: "/a-", q: "/zz"}, {do: "rename", p: "/f", q: "/g"},
	}
	for _, p := range append(manyPaths(), "/a/d", "/z", "/f") {
		acts = append(acts, all(p)...)
	}
	lists := append(noTrees()[:20], sample(), chain(), nil, table{file("/f", "x")}, table{dir("/z")})
	for _, l := range lists {
		for _, a := range acts {
			handed, whole := roomy(l)
			first := do(handed, a)
			want := reply{slices.Clone(first.tree), slices.Clone(first.names), first.data, first.kind, first.code}
			spoil(first.tree)
			for i := range first.names[:cap(first.names)] {
				first.names[:cap(first.names)][i] = "spoilt"
			}
			_, left := roomy(l)
			if !slices.Equal(whole, left) {
				t.Errorf("%+v of %+v left %+v", a, few(l), few(whole))
			}
			second := do(handed, a)
			spoil(whole)
			if !alike(second, want) {
				t.Errorf("%+v of %+v once more = %+v: not %+v", a, few(l), brief(second), brief(want))
			}
		}
	}
}
