package disk_test

import (
	"math"
	"math/rand"
	"testing"

	"shale/api"
	"shale/disk"
	"shale/fail"
)

const all = math.MaxUint64

// made answers a new disk.
func made(t *testing.T, n int) *disk.Disk {
	t.Helper()
	d, e := disk.New(n)
	if d == nil || e != nil {
		t.Fatalf("New(%d) = %v, %v", n, d, e)
	}
	return d
}

// page answers a sector full of bytes, the last one another than the others.
func page(x int) api.Page {
	var p api.Page
	for i := range p {
		p[i] = byte(x)
	}
	p[len(p)-1] = byte(x >> 8)
	return p
}

// write writes page(x), and holds that it goes well.
func write(t *testing.T, d *disk.Disk, i, x int) {
	t.Helper()
	if e := d.Write(i, page(x)); e != nil {
		t.Errorf("Write(%d, %d) = %v", i, x, e)
	}
}

// flush flushes, and holds that it goes well, and leaves all firm.
func flush(t *testing.T, d *disk.Disk) {
	t.Helper()
	if e := d.Flush(); e != nil || d.Soft() != 0 {
		t.Errorf("Flush = %v, %d soft", e, d.Soft())
	}
}

// crash lets the power go, and come back.
func crash(d *disk.Disk, mask uint64) {
	d.Crash(mask)
	d.Up()
}

// shows holds what is read of the first sectors.
func shows(t *testing.T, d *disk.Disk, want ...int) {
	t.Helper()
	for i, x := range want {
		if p, e := d.Read(i); p != page(x) || e != nil {
			t.Errorf("Read(%d) = %v, %v: not of %d", i, p, e, x)
		}
	}
}

// soft holds how many writes aren't firm.
func soft(t *testing.T, d *disk.Disk, want int) {
	t.Helper()
	if n := d.Soft(); n != want {
		t.Errorf("Soft = %d, not %d", n, want)
	}
}

// refuseRead holds that nothing is read.
func refuseRead(t *testing.T, d *disk.Disk, i int, n api.Errno) {
	t.Helper()
	if p, e := d.Read(i); p != (api.Page{}) || fail.Code(e) != int(n) {
		t.Errorf("Read(%d) = %v, %v: not %v", i, p, e, n)
	}
}

// refuseWrite holds that a write is refused.
func refuseWrite(t *testing.T, d *disk.Disk, i int, n api.Errno) {
	t.Helper()
	if e := d.Write(i, page(99)); fail.Code(e) != int(n) {
		t.Errorf("Write(%d) = %v: not %v", i, e, n)
	}
}

// refuseFlush holds that a flush is refused.
func refuseFlush(t *testing.T, d *disk.Disk, n api.Errno) {
	t.Helper()
	if e := d.Flush(); fail.Code(e) != int(n) {
		t.Errorf("Flush = %v: not %v", e, n)
	}
}

// outside are numbers of no sector of a disk of n.
func outside(n int) []int {
	return []int{-1, -n, n, n + 1, api.MaxDisk, math.MinInt32, math.MaxInt32, 1 << 32, math.MinInt, math.MaxInt}
}

// 5.1

func TestNew(t *testing.T) {
	for _, n := range []int{1, 2, 3, 63, 64, 65, api.MaxDisk - 1, api.MaxDisk} {
		d := made(t, n)
		if d.Size() != n || d.Soft() != 0 {
			t.Errorf("New(%d): size %d, %d soft", n, d.Size(), d.Soft())
		}
		for i := range n {
			if p, e := d.Read(i); p != (api.Page{}) || e != nil {
				t.Fatalf("New(%d): Read(%d) = %v, %v", n, i, p, e)
			}
		}
		write(t, d, n-1, 2)
		write(t, d, 0, 1)
		shows(t, d, 1)
	}
}

func TestNewOfAnother(t *testing.T) {
	for _, n := range []int{0, -1, -64, api.MaxDisk + 1, 2 * api.MaxDisk, 1 << 32, 1<<32 + 1, math.MinInt, math.MaxInt} {
		if d, e := disk.New(n); d != nil || fail.Code(e) != int(api.ErrArg) {
			t.Errorf("New(%d) = %v, %v", n, d, e)
		}
	}
}

func TestNewHasNoBudget(t *testing.T) {
	d := made(t, 2)
	for x := range 5000 {
		write(t, d, x%2, x)
	}
	soft(t, d, 5000)
	shows(t, d, 4998, 4999)
}

func TestSizeStays(t *testing.T) {
	d := made(t, 5)
	write(t, d, 4, 1)
	d.Budget(0)
	d.Crash(0)
	if d.Size() != 5 {
		t.Errorf("Size = %d, down", d.Size())
	}
	d.Up()
	if d.Size() != 5 {
		t.Errorf("Size = %d, up", d.Size())
	}
}

func TestSoft(t *testing.T) {
	d := made(t, 3)
	for x := range 200 {
		soft(t, d, x)
		write(t, d, x%2, 7)
	}
	soft(t, d, 200)
	flush(t, d)
	write(t, d, 0, 7)
	soft(t, d, 1)
	d.Crash(1)
	soft(t, d, 0)
	d.Up()
	soft(t, d, 0)
}

func TestDisksApart(t *testing.T) {
	one, two := made(t, 2), made(t, 2)
	write(t, one, 0, 1)
	one.Budget(0)
	shows(t, two, 0, 0)
	write(t, two, 0, 2)
	flush(t, two)
	soft(t, one, 1)
	one.Crash(0)
	shows(t, two, 2, 0)
}

// 5.2

func TestLastWriteIsRead(t *testing.T) {
	d := made(t, 3)
	write(t, d, 0, 1)
	shows(t, d, 1, 0, 0)
	write(t, d, 2, 2)
	write(t, d, 0, 3)
	shows(t, d, 3, 0, 2)
	flush(t, d)
	shows(t, d, 3, 0, 2)
	write(t, d, 0, 4)
	shows(t, d, 4, 0, 2)
	write(t, d, 0, 0)
	shows(t, d, 0, 0, 2)
	flush(t, d)
	shows(t, d, 0, 0, 2)
}

func TestPagesAreCopies(t *testing.T) {
	d := made(t, 1)
	p := page(5)
	if e := d.Write(0, p); e != nil {
		t.Fatal(e)
	}
	p[0] = 77
	shows(t, d, 5)
	q, _ := d.Read(0)
	q[0] = 78
	shows(t, d, 5)
	flush(t, d)
	q, _ = d.Read(0)
	q[0] = 79
	shows(t, d, 5)
}

func TestOutside(t *testing.T) {
	d := made(t, 4)
	write(t, d, 3, 1)
	d.Budget(1)
	for _, i := range outside(4) {
		refuseRead(t, d, i, api.ErrArg)
		refuseWrite(t, d, i, api.ErrArg)
	}
	soft(t, d, 1)
	shows(t, d, 0, 0, 0, 1)
	// The budget is whole, and the next write is the one of bit 1.
	write(t, d, 0, 2)
	refuseWrite(t, d, 0, api.ErrDisk)
	crash(d, 2)
	shows(t, d, 2, 0, 0, 0)
}

func TestOutsideAheadOfBudget(t *testing.T) {
	d := made(t, 4)
	d.Budget(0)
	for _, i := range outside(4) {
		refuseWrite(t, d, i, api.ErrArg)
	}
	refuseWrite(t, d, 3, api.ErrDisk)
}

func TestDown(t *testing.T) {
	d := made(t, 4)
	write(t, d, 1, 1)
	flush(t, d)
	for _, n := range []int{-1, 0, 5} {
		d.Budget(n)
		d.Crash(0)
		for _, i := range append(outside(4), 0, 1, 2, 3) {
			refuseRead(t, d, i, api.ErrDown)
			refuseWrite(t, d, i, api.ErrDown)
		}
		refuseFlush(t, d, api.ErrDown)
		soft(t, d, 0)
		d.Up()
		shows(t, d, 0, 1, 0, 0)
		flush(t, d)
	}
	// No write that was refused spent the budget.
	for x := range 5 {
		write(t, d, 0, x)
	}
	refuseWrite(t, d, 0, api.ErrDisk)
}

func TestBudget(t *testing.T) {
	for _, n := range []int{0, 1, 2, 3, 64, 65, 100} {
		d := made(t, 2)
		d.Budget(n)
		for x := range n {
			write(t, d, 0, x+1)
		}
		for range 3 {
			refuseWrite(t, d, 0, api.ErrDisk)
			refuseWrite(t, d, 1, api.ErrDisk)
		}
		soft(t, d, n)
		shows(t, d, n, 0)
		flush(t, d)
		refuseWrite(t, d, 1, api.ErrDisk)
		crash(d, 0)
		shows(t, d, n, 0)
	}
}

func TestBudgetIsNotSpentByReadsAndFlushes(t *testing.T) {
	d := made(t, 2)
	d.Budget(2)
	for range 5 {
		shows(t, d, 0, 0)
		flush(t, d)
	}
	write(t, d, 0, 1)
	flush(t, d)
	write(t, d, 1, 2)
	refuseWrite(t, d, 1, api.ErrDisk)
	shows(t, d, 1, 2)
}

func TestBudgetSetAnew(t *testing.T) {
	for _, none := range []int{-1, -2, -64, math.MinInt32, math.MinInt} {
		d := made(t, 1)
		d.Budget(0)
		refuseWrite(t, d, 0, api.ErrDisk)
		d.Budget(2)
		write(t, d, 0, 1)
		d.Budget(2)
		write(t, d, 0, 2)
		write(t, d, 0, 3)
		refuseWrite(t, d, 0, api.ErrDisk)
		d.Budget(none)
		for x := range 300 {
			write(t, d, 0, x)
		}
		d.Budget(0)
		refuseWrite(t, d, 0, api.ErrDisk)
		d.Budget(math.MaxInt)
		write(t, d, 0, 4)
		shows(t, d, 4)
	}
}

func TestBudgetLastsThroughCrash(t *testing.T) {
	d := made(t, 1)
	d.Budget(2)
	write(t, d, 0, 1)
	crash(d, 0)
	write(t, d, 0, 2)
	refuseWrite(t, d, 0, api.ErrDisk)
	crash(d, all)
	refuseWrite(t, d, 0, api.ErrDisk)
	d.Crash(0)
	d.Budget(1)
	refuseWrite(t, d, 0, api.ErrDown)
	d.Up()
	write(t, d, 0, 3)
	refuseWrite(t, d, 0, api.ErrDisk)
	shows(t, d, 3)
}

func TestRefusedWriteHasNoBit(t *testing.T) {
	d := made(t, 3)
	d.Budget(1)
	write(t, d, 0, 1)
	refuseWrite(t, d, 1, api.ErrDisk)
	d.Budget(1)
	write(t, d, 2, 3)
	crash(d, 2)
	shows(t, d, 0, 0, 3)
}

func TestFlushCountsAnew(t *testing.T) {
	d := made(t, 3)
	write(t, d, 0, 1)
	flush(t, d)
	write(t, d, 1, 2)
	write(t, d, 2, 3)
	crash(d, 1)
	shows(t, d, 1, 2, 0)
	write(t, d, 0, 4)
	write(t, d, 1, 5)
	crash(d, 2)
	shows(t, d, 1, 5, 0)
}

// 5.3

func TestCrashByEachMask(t *testing.T) {
	for mask := range uint64(32) {
		d := made(t, 5)
		var want [5]int
		for i := range 5 {
			write(t, d, i, i+1)
			if mask>>i&1 == 1 {
				want[i] = i + 1
			}
		}
		crash(d, mask)
		soft(t, d, 0)
		shows(t, d, want[:]...)
	}
}

// Writes of one sector: the last one that is kept is read.
func TestCrashOfOneSector(t *testing.T) {
	for mask := range uint64(16) {
		d := made(t, 1)
		want := 9
		write(t, d, 0, want)
		flush(t, d)
		for i := range 4 {
			write(t, d, 0, i+1)
			if mask>>i&1 == 1 {
				want = i + 1
			}
		}
		crash(d, mask)
		shows(t, d, want)
	}
}

// The 64th write is of the first bit again.
func TestCrashBeyondMask(t *testing.T) {
	for bit := range 64 {
		d := made(t, 200)
		for i := range 200 {
			write(t, d, i, i+1)
		}
		crash(d, 1<<bit)
		for i := range 200 {
			want := api.Page{}
			if i%64 == bit {
				want = page(i + 1)
			}
			if p, e := d.Read(i); p != want || e != nil {
				t.Fatalf("bit %d: Read(%d) = %v, %v", bit, i, p, e)
			}
		}
	}
}

// Of two writes of one sector and one bit the later one is read.
func TestCrashOfOneBit(t *testing.T) {
	d := made(t, 2)
	for x := range 131 {
		write(t, d, 0, x+1)
	}
	crash(d, 1<<3)
	shows(t, d, 68)
	for x := range 131 {
		write(t, d, 0, x+1)
	}
	crash(d, 1<<2|1<<3)
	shows(t, d, 131)
	for x := range 131 {
		write(t, d, 0, x+1)
	}
	crash(d, 1<<1|1<<63)
	shows(t, d, 130)
}

func TestKeptIsFirm(t *testing.T) {
	d := made(t, 2)
	write(t, d, 0, 1)
	crash(d, 1)
	crash(d, 0)
	shows(t, d, 1, 0)
	write(t, d, 1, 2)
	d.Crash(1)
	d.Crash(0)
	d.Crash(all)
	refuseRead(t, d, 0, api.ErrDown)
	d.Up()
	shows(t, d, 1, 2)
}

func TestLostIsLost(t *testing.T) {
	d := made(t, 1)
	write(t, d, 0, 1)
	d.Crash(0)
	d.Crash(all)
	d.Up()
	flush(t, d)
	shows(t, d, 0)
}

func TestUpOfOneThatIsUp(t *testing.T) {
	d := made(t, 2)
	d.Up()
	d.Budget(2)
	write(t, d, 0, 1)
	d.Up()
	soft(t, d, 1)
	write(t, d, 1, 2)
	refuseWrite(t, d, 1, api.ErrDisk)
	shows(t, d, 1, 2)
	crash(d, 2)
	shows(t, d, 0, 2)
}

func TestNil(t *testing.T) {
	var d *disk.Disk
	for _, i := range append(outside(4), 0, 1) {
		refuseRead(t, d, i, api.ErrArg)
		refuseWrite(t, d, i, api.ErrArg)
		d.Budget(i)
	}
	refuseFlush(t, d, api.ErrArg)
	d.Crash(0)
	d.Crash(all)
	d.Up()
	if d.Size() != 0 || d.Soft() != 0 {
		t.Errorf("nil: size %d, %d soft", d.Size(), d.Soft())
	}
}

func TestExample(t *testing.T) {
	d := made(t, 1)
	write(t, d, 0, 0x0101)
	d.Crash(0)
	d.Up()
	shows(t, d, 0)
}

// 5.4

func TestFirmLasts(t *testing.T) {
	for _, mask := range []uint64{0, 1, 2, 6, 1 << 63, all - 1, all} {
		d := made(t, 3)
		write(t, d, 0, 1)
		write(t, d, 1, 2)
		flush(t, d)
		for range 3 {
			crash(d, mask)
			shows(t, d, 1, 2, 0)
		}
		// What is kept elsewhere leaves it as it is.
		write(t, d, 2, 3)
		crash(d, mask)
		shows(t, d, 1, 2)
		// What is lost does so too.
		write(t, d, 0, 4)
		crash(d, mask&^1)
		shows(t, d, 1, 2)
	}
}

// plain is a disk as the chapter tells it: all writes in a list.
type plain struct {
	firm   []api.Page
	at     []int
	pages  []api.Page
	down   bool
	budget int
}

func (m *plain) read(i int) (api.Page, int) {
	if m.down {
		return api.Page{}, 11
	}
	if i < 0 || i >= len(m.firm) {
		return api.Page{}, 1
	}
	got := m.firm[i]
	for k, at := range m.at {
		if at == i {
			got = m.pages[k]
		}
	}
	return got, 0
}

func (m *plain) write(i int, p api.Page) int {
	if _, n := m.read(i); n != 0 {
		return n
	}
	if m.budget == 0 {
		return 10
	}
	m.budget--
	m.at, m.pages = append(m.at, i), append(m.pages, p)
	return 0
}

func (m *plain) flush() int {
	if m.down {
		return 11
	}
	m.settle(all)
	return 0
}

// settle makes the writes firm that a mask keeps, and forgets the others.
func (m *plain) settle(mask uint64) {
	for k, at := range m.at {
		if mask&(1<<(k%64)) != 0 {
			m.firm[at] = m.pages[k]
		}
	}
	m.at, m.pages = nil, nil
}

// both does one thing to a disk and to its model, and holds that they answer
// alike.
func both(t *testing.T, r *rand.Rand, d *disk.Disk, m *plain) {
	i := r.Intn(len(m.firm)+2) - 1
	switch r.Intn(100) {
	case 0:
		if got, want := fail.Code(d.Flush()), m.flush(); got != want {
			t.Fatalf("Flush = %d, not %d", got, want)
		}
	case 1:
		mask := r.Uint64() & r.Uint64()
		d.Crash(mask)
		m.settle(mask)
		m.down = true
	case 2:
		n := r.Intn(300) - 100
		d.Budget(n)
		m.budget = n
	case 3, 4, 5, 6, 7, 8, 9:
		d.Up()
		m.down = false
	default:
		p := page(r.Intn(1 << 16))
		if got, want := fail.Code(d.Write(i, p)), m.write(i, p); got != want {
			t.Fatalf("Write(%d) = %d, not %d", i, got, want)
		}
	}
	alike(t, d, m)
}

// alike holds that a disk is what its model is.
func alike(t *testing.T, d *disk.Disk, m *plain) {
	if d.Size() != len(m.firm) || d.Soft() != len(m.at) {
		t.Fatalf("size %d, %d soft: not %d, %d", d.Size(), d.Soft(), len(m.firm), len(m.at))
	}
	for i := -1; i <= len(m.firm); i++ {
		p, e := d.Read(i)
		if want, n := m.read(i); p != want || fail.Code(e) != n {
			t.Fatalf("Read(%d) = %v, %v: not %v, %d", i, p, e, want, n)
		}
	}
}

func TestAsAList(t *testing.T) {
	for seed := range int64(60) {
		r := rand.New(rand.NewSource(seed))
		n := 1 + r.Intn(5)
		d, m := made(t, n), &plain{firm: make([]api.Page, n), budget: -1}
		for range 1500 {
			both(t, r, d, m)
		}
	}
}

// However many writes aren't firm, reading and writing goes on at one pace.
func TestManyWrites(t *testing.T) {
	d := made(t, api.MaxDisk)
	const many = 1 << 20
	for x := range many {
		i := x % 3
		if d.Write(i, page(x)) != nil {
			t.Fatalf("Write %d", x)
		}
		if p, e := d.Read(i); p != page(x) || e != nil {
			t.Fatalf("Read %d = %v, %v", x, p, e)
		}
	}
	soft(t, d, many)
	crash(d, 1)
	// The last three writes of bit 0, of which each lies in another sector.
	const k = many - 64
	for _, x := range []int{k - 128, k - 64, k} {
		if p, e := d.Read(x % 3); p != page(x) || e != nil {
			t.Errorf("Read(%d) = %v, %v: not of %d", x%3, p, e, x)
		}
	}
}
