package blob_test

import (
	"math"
	"math/rand"
	"strings"
	"testing"

	"shale/adler"
	"shale/api"
	"shale/blob"
	"shale/code"
	"shale/disk"
	"shale/fail"
)

const longest = 16384

// made answers a new disk, each of its sectors full of 0xee, and firm.
func made(t *testing.T, n int) *disk.Disk {
	t.Helper()
	d, e := disk.New(n)
	if e != nil {
		t.Fatalf("New(%d) = %v", n, e)
	}
	for i := range n {
		if e := d.Write(i, old()); e != nil {
			t.Fatalf("Write(%d) = %v", i, e)
		}
	}
	if e := d.Flush(); e != nil {
		t.Fatalf("Flush = %v", e)
	}
	return d
}

// old answers what a made disk's sectors have.
func old() api.Page {
	var p api.Page
	for i := range p {
		p[i] = 0xee
	}
	return p
}

// text answers a text of n bytes, no two neighbouring sectors of it alike.
func text(n int) string {
	s := make([]byte, n)
	for i := range s {
		s[i] = byte(i*7 + i/api.Sector*3 + 1)
	}
	return string(s)
}

// sizes are some that a text has, at each end of its sectors.
func sizes() []int {
	return []int{1, 2, 63, 64, 65, 127, 128, 129, 150, 1000, longest - 65, longest - 64, longest - 63, longest - 1, longest}
}

// wild are numbers of no size and no sector.
func wild() []int {
	return []int{-1, -2, -64, -longest, math.MinInt32, math.MinInt, math.MinInt + 1, math.MinInt + 63,
		longest + 1, longest + 64, math.MaxInt32, 1 << 32, 1<<32 + 1, 1 << 62, math.MaxInt - 63, math.MaxInt - 1, math.MaxInt}
}

// put puts a text, and holds where it lies.
func put(t *testing.T, d *disk.Disk, at int, s string) blob.Ref {
	t.Helper()
	r, e := blob.Put(d, at, s)
	if want := (blob.Ref{At: at, Size: len(s), Sum: adler.Sum(s)}); r != want || e != nil {
		t.Fatalf("Put at %d of %d bytes = %v, %v: not %v", at, len(s), r, e, want)
	}
	return r
}

// refusePut holds that a text isn't put, and nothing is written.
func refusePut(t *testing.T, d *disk.Disk, at int, s string, n api.Errno) {
	t.Helper()
	soft := d.Soft()
	if r, e := blob.Put(d, at, s); r != (blob.Ref{}) || fail.Code(e) != int(n) {
		t.Errorf("Put at %d of %d bytes = %v, %v: not %v", at, len(s), r, e, n)
	}
	if d.Soft() != soft {
		t.Errorf("Put at %d of %d bytes has written %d sectors", at, len(s), d.Soft()-soft)
	}
}

// get gets a text, and holds that it is s.
func get(t *testing.T, d *disk.Disk, r blob.Ref, s string) {
	t.Helper()
	if got, e := blob.Get(d, r); got != s || e != nil {
		t.Errorf("Get(%v) has %d bytes, %v", r, len(got), e)
	}
}

// refuseGet holds that a text isn't got.
func refuseGet(t *testing.T, d *disk.Disk, r blob.Ref, n api.Errno) {
	t.Helper()
	if s, e := blob.Get(d, r); s != "" || fail.Code(e) != int(n) {
		t.Errorf("Get(%v) has %d bytes, %v: not %v", r, len(s), e, n)
	}
}

// sector answers a sector's bytes.
func sector(t *testing.T, d *disk.Disk, i int) api.Page {
	t.Helper()
	p, e := d.Read(i)
	if e != nil {
		t.Fatalf("Read(%d) = %v", i, e)
	}
	return p
}

// 7.1

func TestPages(t *testing.T) {
	for size, want := range map[int]int{1: 1, 63: 1, 64: 1, 65: 2, 128: 2, 129: 3, longest - 64: 255, longest - 63: 256, longest: 256} {
		if n := blob.Pages(size); n != want {
			t.Errorf("Pages(%d) = %d, not %d", size, n, want)
		}
	}
	pages := 0
	for size := 1; size <= longest; size++ {
		if size%api.Sector == 1 {
			pages++
		}
		if n := blob.Pages(size); n != pages {
			t.Fatalf("Pages(%d) = %d, not %d", size, n, pages)
		}
	}
}

func TestPagesOfAnotherSize(t *testing.T) {
	for _, size := range append(wild(), 0) {
		if n := blob.Pages(size); n != 0 {
			t.Errorf("Pages(%d) = %d", size, n)
		}
	}
}

func TestRight(t *testing.T) {
	for _, c := range []struct {
		at, bytes, size int
		want            bool
	}{
		{0, 1, 1, true},
		{0, 64, 1, true},
		{0, 65, 1, false},
		{1, 1, 1, false},
		{-1, 1, 1, false},
		{-1, 65, 4, false},
		{0, 1, 0, false},
		{0, 1, -1, false},
		{7, 150, 10, true},
		{8, 150, 10, false},
		{8, 128, 10, true},
		{8, 129, 10, false},
		{9, 64, 10, true},
		{10, 1, 10, false},
		{0, 0, 10, false},
		{3, 0, 10, false},
		{0, -1, 10, false},
		{0, longest, 256, true},
		{0, longest, 255, false},
		{1, longest, 256, false},
		{0, longest + 1, api.MaxDisk, false},
		{api.MaxDisk - 256, longest, api.MaxDisk, true},
		{api.MaxDisk - 255, longest, api.MaxDisk, false},
		{api.MaxDisk - 1, 1, api.MaxDisk, true},
		{api.MaxDisk, 1, api.MaxDisk, false},
	} {
		for _, sum := range []uint32{0, 1, math.MaxUint32} {
			r := blob.Ref{At: c.at, Size: c.bytes, Sum: sum}
			if got := blob.Right(r, c.size); got != c.want {
				t.Errorf("Right(%v, %d) = %v", r, c.size, got)
			}
		}
	}
}

// Each run is held against each of its sectors.
func TestRightSectorBySector(t *testing.T) {
	for size := -1; size <= 6; size++ {
		for at := -2; at <= size+2; at++ {
			for bytes := -1; bytes <= 400; bytes++ {
				want := bytes > 0
				for i := 0; i*api.Sector < bytes; i++ {
					want = want && at+i >= 0 && at+i < size
				}
				if got := blob.Right(blob.Ref{At: at, Size: bytes}, size); got != want {
					t.Fatalf("Right(%d, %d bytes, of %d) = %v", at, bytes, size, got)
				}
			}
		}
	}
}

// Numbers that wrap round, if they are added up.
func TestRightOfWildNumbers(t *testing.T) {
	for _, x := range wild() {
		for _, n := range append(sizes(), wild()...) {
			if blob.Right(blob.Ref{At: x, Size: n}, api.MaxDisk) {
				t.Errorf("Right at %d, of %d bytes", x, n)
			}
			if blob.Right(blob.Ref{At: n, Size: x}, api.MaxDisk) {
				t.Errorf("Right at %d, of %d bytes", n, x)
			}
			if x < 0 && blob.Right(blob.Ref{At: 0, Size: max(n, 0)}, x) {
				t.Errorf("Right of %d bytes on %d sectors", n, x)
			}
			if x < 0 && blob.Right(blob.Ref{At: n, Size: longest}, x) {
				t.Errorf("Right at %d on %d sectors", n, x)
			}
		}
	}
}

func TestPutWritesSectors(t *testing.T) {
	d := made(t, 6)
	s := text(150)
	put(t, d, 2, s)
	if d.Soft() != 3 {
		t.Errorf("%d writes", d.Soft())
	}
	for i, want := range []string{s[:64], s[64:128], s[128:] + strings.Repeat("\x00", 42)} {
		if p := sector(t, d, 2+i); string(p[:]) != want {
			t.Errorf("sector %d has %q", 2+i, p)
		}
	}
	for _, i := range []int{0, 1, 5} {
		if sector(t, d, i) != old() {
			t.Errorf("sector %d has changed", i)
		}
	}
}

// A text that ends with its last sector has nothing behind it.
func TestPutFullSectors(t *testing.T) {
	d := made(t, 3)
	put(t, d, 0, text(128))
	if p, q := sector(t, d, 0), sector(t, d, 1); string(p[:])+string(q[:]) != text(128) {
		t.Errorf("%q, %q", p, q)
	}
	if d.Soft() != 2 || sector(t, d, 2) != old() {
		t.Errorf("%d writes, %q behind", d.Soft(), sector(t, d, 2))
	}
}

// The i-th write is that of the i-th sector: a mask of its bit keeps it alone.
func TestPutInOrder(t *testing.T) {
	s := text(5*api.Sector - 9)
	for kept := range 5 {
		d := made(t, 8)
		put(t, d, 2, s)
		d.Crash(1 << kept)
		d.Up()
		for i := range 5 {
			var want api.Page
			copy(want[:], s[i*api.Sector:])
			if i != kept {
				want = old()
			}
			if sector(t, d, 2+i) != want {
				t.Errorf("the write %d kept: sector %d has %q", kept, 2+i, sector(t, d, 2+i))
			}
		}
	}
}

// Put alone makes nothing firm.
func TestPutIsNotFirm(t *testing.T) {
	d := made(t, 4)
	r := put(t, d, 1, text(100))
	get(t, d, r, text(100))
	d.Crash(0)
	d.Up()
	refuseGet(t, d, r, api.ErrSum)
	r = put(t, d, 1, text(100))
	if e := d.Flush(); e != nil {
		t.Fatal(e)
	}
	d.Crash(0)
	d.Up()
	get(t, d, r, text(100))
}

func TestPutOfAnotherSize(t *testing.T) {
	down := made(t, 10)
	down.Crash(0)
	for _, s := range []string{"", text(longest + 1), text(2 * longest), strings.Repeat("a", 1<<20)} {
		for _, at := range append(wild(), 0, 9, 10) {
			refusePut(t, made(t, 10), at, s, api.ErrSize)
			refusePut(t, down, at, s, api.ErrSize)
			refusePut(t, nil, at, s, api.ErrSize)
		}
	}
}

func TestPutOutside(t *testing.T) {
	d := made(t, 10)
	for _, at := range append(wild(), 10, 11) {
		refusePut(t, d, at, text(1), api.ErrArg)
		refusePut(t, d, at, text(150), api.ErrArg)
	}
	refusePut(t, d, 8, text(150), api.ErrArg)
	refusePut(t, d, 9, text(65), api.ErrArg)
	refusePut(t, d, -1, text(65), api.ErrArg)
	refusePut(t, d, 0, text(641), api.ErrArg)
	refusePut(t, d, 0, text(longest), api.ErrArg)
	for i := range 10 {
		if sector(t, d, i) != old() {
			t.Errorf("sector %d has changed", i)
		}
	}
	put(t, d, 0, text(640))
}

// ErrArg comes ahead of the disk's errors, and spends no budget.
func TestPutOutsideAheadOfTheDisk(t *testing.T) {
	d := made(t, 4)
	d.Budget(1)
	refusePut(t, d, 3, text(65), api.ErrArg)
	put(t, d, 3, text(64))
	refusePut(t, d, 3, text(65), api.ErrArg)
	refusePut(t, d, 3, text(64), api.ErrDisk)
	d.Crash(0)
	refusePut(t, d, 3, text(65), api.ErrArg)
	refusePut(t, d, 3, text(64), api.ErrDown)
}

// What the budget lets through is written, from the first sector on.
func TestPutBeyondTheBudget(t *testing.T) {
	s := text(4 * api.Sector)
	for budget := range 5 {
		d := made(t, 6)
		d.Budget(budget)
		r, e := blob.Put(d, 1, s)
		if budget == 4 {
			if e != nil || r.At != 1 {
				t.Errorf("Put = %v, %v", r, e)
			}
			continue
		}
		if r != (blob.Ref{}) || fail.Code(e) != int(api.ErrDisk) || d.Soft() != budget {
			t.Errorf("Put with a budget of %d = %v, %v, %d writes", budget, r, e, d.Soft())
		}
		for i := range 4 {
			var want api.Page
			copy(want[:], s[i*api.Sector:])
			if i >= budget {
				want = old()
			}
			if sector(t, d, 1+i) != want {
				t.Errorf("with a budget of %d the sector %d has %q", budget, 1+i, sector(t, d, 1+i))
			}
		}
	}
}

func TestPutOfNoDisk(t *testing.T) {
	for _, at := range []int{0, 1, -1, math.MaxInt, math.MinInt} {
		refusePut(t, nil, at, "a", api.ErrArg)
		refusePut(t, nil, at, "", api.ErrSize)
	}
}

// 7.2

func TestGetOfWhatIsNotRight(t *testing.T) {
	d := made(t, 10)
	r := put(t, d, 7, text(150))
	get(t, d, r, text(150))
	for _, x := range append(wild(), 10, 11) {
		refuseGet(t, d, blob.Ref{At: x, Size: 150, Sum: r.Sum}, api.ErrArg)
		refuseGet(t, d, blob.Ref{At: x, Size: 1, Sum: r.Sum}, api.ErrArg)
	}
	for _, x := range append(wild(), 0, 193, longest) {
		refuseGet(t, d, blob.Ref{At: 7, Size: x, Sum: r.Sum}, api.ErrArg)
	}
	refuseGet(t, d, blob.Ref{}, api.ErrArg)
	refuseGet(t, nil, r, api.ErrArg)
	refuseGet(t, nil, blob.Ref{}, api.ErrArg)
	d.Crash(math.MaxUint64)
	refuseGet(t, d, r, api.ErrDown)
	refuseGet(t, d, blob.Ref{At: 8, Size: 150, Sum: r.Sum}, api.ErrArg)
	refuseGet(t, d, blob.Ref{At: 7, Size: 0, Sum: 1}, api.ErrArg)
	d.Up()
	get(t, d, r, text(150))
}

// Down comes ahead of another sum.
func TestGetFromADiskThatIsDown(t *testing.T) {
	d := made(t, 4)
	r := put(t, d, 0, text(200))
	d.Crash(math.MaxUint64)
	r.Sum++
	refuseGet(t, d, r, api.ErrDown)
	d.Up()
	refuseGet(t, d, r, api.ErrSum)
}

func TestGetOfAnotherSum(t *testing.T) {
	d := made(t, 4)
	r := put(t, d, 1, text(100))
	for bit := range 32 {
		x := r
		x.Sum ^= 1 << bit
		refuseGet(t, d, x, api.ErrSum)
	}
	for _, sum := range []uint32{0, 1, r.Sum - 1, r.Sum + 1, math.MaxUint32} {
		refuseGet(t, d, blob.Ref{At: 1, Size: 100, Sum: sum}, api.ErrSum)
	}
	for _, size := range []int{1, 64, 99, 101, 128} {
		refuseGet(t, d, blob.Ref{At: 1, Size: size, Sum: r.Sum}, api.ErrSum)
	}
	for _, at := range []int{0, 2} {
		refuseGet(t, d, blob.Ref{At: at, Size: 100, Sum: r.Sum}, api.ErrSum)
	}
	get(t, d, r, text(100))
}

// Getting asks the disk alone for what is there: it spends no budget.
func TestGetWithoutABudget(t *testing.T) {
	d := made(t, 4)
	r := put(t, d, 1, text(100))
	d.Budget(0)
	for range 3 {
		get(t, d, r, text(100))
	}
	if d.Soft() != 2 {
		t.Errorf("%d writes", d.Soft())
	}
}

// What stands on the disk is got, whoever wrote it, whatever is behind it in
// the last sector.
func TestGetWhatOthersWrote(t *testing.T) {
	d := made(t, 3)
	s := strings.Repeat("\xee", 70)
	get(t, d, blob.Ref{At: 1, Size: 70, Sum: adler.Sum(s)}, s)
	get(t, d, blob.Ref{At: 2, Size: 1, Sum: adler.Sum("\xee")}, "\xee")
}

// 7.3

func TestLay(t *testing.T) {
	for _, c := range []struct {
		r    blob.Ref
		want string
	}{
		{blob.Ref{}, "\x00\x00\x00"},
		{blob.Ref{At: 1, Size: 2, Sum: 3}, "\x01\x02\x03"},
		{blob.Ref{At: 7, Size: 150, Sum: 300}, "\x07\x96\x01\xac\x02"},
		{blob.Ref{At: 2048, Size: 16384, Sum: math.MaxUint32}, "\x80\x10\x80\x80\x01\xff\xff\xff\xff\x0f"},
		{blob.Ref{At: 0, Size: 0, Sum: 1 << 31}, "\x00\x00\x80\x80\x80\x80\x08"},
		// As they are, right or not.
		{blob.Ref{At: 2049, Size: 16385, Sum: 0}, "\x81\x10\x81\x80\x01\x00"},
		{blob.Ref{At: 1 << 62, Size: 1, Sum: 1}, "\x80\x80\x80\x80\x80\x80\x80\x80\x40\x01\x01"},
		// Below 0, nothing.
		{blob.Ref{At: -1, Size: 2, Sum: 3}, "\x02\x03"},
		{blob.Ref{At: 1, Size: -2, Sum: 3}, "\x01\x03"},
		{blob.Ref{At: -1, Size: -2, Sum: 3}, "\x03"},
		{blob.Ref{At: math.MinInt, Size: math.MinInt, Sum: 0}, "\x00"},
		{blob.Ref{At: math.MaxInt, Size: math.MaxInt, Sum: 0}, "\x00"},
	} {
		if got := blob.Lay(c.r); got != c.want {
			t.Errorf("Lay(%v) = %q, not %q", c.r, got, c.want)
		}
	}
}

// refs are some that are read as they were laid.
func refs() []blob.Ref {
	var l []blob.Ref
	for _, at := range []int{0, 1, 127, 128, 2047, 2048} {
		for _, size := range []int{0, 1, 64, 127, 128, 16383, 16384} {
			for _, sum := range []uint32{0, 1, 127, 128, 65521, 0x11e60398, 1<<31 - 1, 1 << 31, math.MaxUint32} {
				l = append(l, blob.Ref{At: at, Size: size, Sum: sum})
			}
		}
	}
	return l
}

func TestReadWhatWasLaid(t *testing.T) {
	for _, r := range refs() {
		for _, behind := range []string{"", "\x00", "\x80", "abc"} {
			from := code.New(blob.Lay(r) + behind)
			if got, e := blob.Read(from); got != r || e != nil || from.Left() != len(behind) {
				t.Errorf("Read of Lay(%v) and %q = %v, %v, %d left", r, behind, got, e, from.Left())
			}
		}
	}
}

func TestReadOneBehindTheOther(t *testing.T) {
	var laid strings.Builder
	for _, r := range refs() {
		laid.WriteString(blob.Lay(r))
	}
	from := code.New(laid.String())
	for _, r := range refs() {
		if got, e := blob.Read(from); got != r || e != nil {
			t.Fatalf("Read = %v, %v: not %v", got, e, r)
		}
	}
	refuseRead(t, from, api.ErrForm)
}

// refuseRead holds that nothing is read: what is left is as it was.
func refuseRead(t *testing.T, from *code.Reader, n api.Errno) {
	t.Helper()
	left := from.Left()
	if r, e := blob.Read(from); r != (blob.Ref{}) || fail.Code(e) != int(n) || from.Left() != left {
		t.Errorf("Read = %v, %v, %d left of %d: not %v", r, e, from.Left(), left, n)
	}
}

func TestReadWhatIsCut(t *testing.T) {
	for _, r := range refs() {
		laid := blob.Lay(r)
		for n := range laid {
			refuseRead(t, code.New(laid[:n]), api.ErrForm)
		}
	}
}

func TestReadWhatIsNone(t *testing.T) {
	for _, s := range []string{
		code.Num(2049) + "\x01\x01",
		code.Num(1<<62) + "\x01\x01",
		"\x01" + code.Num(16385) + "\x01",
		"\x01" + code.Num(1<<62) + "\x01",
		"\x01\x01" + code.Num(1<<32),
		"\x01\x01" + code.Num(1<<32+1),
		"\x01\x01" + code.Num(1<<62),
		"\x80\x00\x01\x01",
		"\x01\x80\x00\x01",
		"\x01\x01\x80\x00",
		"\x01\x01" + strings.Repeat("\xff", 20),
		strings.Repeat("\xff", 1<<20),
		blob.Lay(blob.Ref{At: -1, Size: 2, Sum: 3}),
		blob.Lay(blob.Ref{At: 1, Size: -2, Sum: 3}),
	} {
		refuseRead(t, code.New(s), api.ErrForm)
	}
}

// Behind a refused call the same numbers are there to be taken.
func TestReadRefusedReadsNothing(t *testing.T) {
	from := code.New("\x05\x06" + code.Num(1<<32) + "\x07\x08\x09")
	for range 3 {
		refuseRead(t, from, api.ErrForm)
	}
	for _, want := range []int{5, 6, 1 << 32} {
		if n, e := from.Num(1 << 62); n != want || e != nil {
			t.Errorf("Num = %d, %v: not %d", n, e, want)
		}
	}
	if r, e := blob.Read(from); r != (blob.Ref{At: 7, Size: 8, Sum: 9}) || e != nil || from.Left() != 0 {
		t.Errorf("Read = %v, %v, %d left", r, e, from.Left())
	}
}

func TestReadOfNil(t *testing.T) {
	refuseRead(t, nil, api.ErrArg)
}

// No two are laid alike: of all short texts that are read, each is laid again
// as it was.
func TestNothingElseIsRead(t *testing.T) {
	some := []byte{0, 1, 2, 16, 17, 126, 127, 128, 129, 254, 255}
	var each func(s string, n int)
	each = func(s string, n int) {
		from := code.New(s)
		if r, e := blob.Read(from); e == nil && blob.Lay(r) != s[:len(s)-from.Left()] {
			t.Fatalf("Read of %q = %v, which is laid as %q", s, r, blob.Lay(r))
		}
		if n == 0 {
			return
		}
		for _, b := range some {
			each(s+string([]byte{b}), n-1)
		}
	}
	each("", 5)
}

// 7.4

func TestWhatIsPutIsGot(t *testing.T) {
	d := made(t, 260)
	for _, n := range sizes() {
		for _, at := range []int{0, 1, 260 - blob.Pages(n)} {
			r := put(t, d, at, text(n))
			get(t, d, r, text(n))
			x, e := blob.Read(code.New(blob.Lay(r)))
			if x != r || e != nil {
				t.Errorf("Read = %v, %v: not %v", x, e, r)
			}
		}
	}
}

// Texts of any bytes, zero bytes at their ends among them.
func TestAnyBytesAreGot(t *testing.T) {
	d := made(t, 8)
	for _, s := range []string{
		"\x00", "a\x00", "\x00a", strings.Repeat("\x00", 64), strings.Repeat("\x00", 65), strings.Repeat("\xff", 512),
		"a" + strings.Repeat("\x00", 127), strings.Repeat("\x00", 200) + "\x01", "Wikipedia", "\xc3\xa4\xff\xfe",
	} {
		get(t, d, put(t, d, 0, s), s)
	}
}

// Several texts, side by side, don't touch each other; one that is put over
// another is got, and the other isn't.
func TestSideBySide(t *testing.T) {
	chance := rand.New(rand.NewSource(7))
	d := made(t, api.MaxDisk)
	texts := map[blob.Ref]string{}
	for at := 0; at < api.MaxDisk; {
		b := make([]byte, 1+chance.Intn(min(longest, (api.MaxDisk-at)*api.Sector)))
		for i := range b {
			b[i] = byte(chance.Intn(256))
		}
		r := put(t, d, at, string(b))
		texts[r] = string(b)
		at += blob.Pages(len(b))
	}
	for r, s := range texts {
		get(t, d, r, s)
	}
	for r, s := range texts {
		put(t, d, r.At, strings.Repeat("x", len(s)))
		refuseGet(t, d, r, api.ErrSum)
	}
}

// Each byte of it, changed on the disk, is told; one behind it is none of it.
func TestAChangedByteIsTold(t *testing.T) {
	d := made(t, 5)
	s := text(150)
	r := put(t, d, 1, s)
	for i := range 3 * api.Sector {
		for _, by := range []byte{1, 0x80, 0xff} {
			was := sector(t, d, 1+i/api.Sector)
			p := was
			p[i%api.Sector] ^= by
			if e := d.Write(1+i/api.Sector, p); e != nil {
				t.Fatal(e)
			}
			if i < len(s) {
				refuseGet(t, d, r, api.ErrSum)
			} else {
				get(t, d, r, s)
			}
			if e := d.Write(1+i/api.Sector, was); e != nil {
				t.Fatal(e)
			}
		}
	}
	get(t, d, r, s)
}
