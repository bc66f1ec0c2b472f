package code_test

import (
	"math"
	"strings"
	"testing"

	"shale/api"
	"shale/code"
	"shale/fail"
)

const (
	greatest = 1 << 62
	long     = 1 << 20
)

// digits answers as many digits as there are, each but the last one with 128
// added.
func digits(low ...byte) string {
	s := make([]byte, 0, len(low))
	for i, d := range low {
		if i < len(low)-1 {
			d += 128
		}
		s = append(s, d)
	}
	return string(s)
}

// numbers are some that have bytes, each with its own.
func numbers() map[int]string {
	return map[int]string{
		0:              "\x00",
		1:              "\x01",
		127:            "\x7f",
		128:            "\x80\x01",
		129:            "\x81\x01",
		255:            "\xff\x01",
		256:            "\x80\x02",
		300:            "\xac\x02",
		16383:          "\xff\x7f",
		16384:          "\x80\x80\x01",
		1<<21 - 1:      "\xff\xff\x7f",
		1 << 21:        "\x80\x80\x80\x01",
		1<<31 - 1:      "\xff\xff\xff\xff\x07",
		1 << 32:        "\x80\x80\x80\x80\x10",
		1<<56 - 1:      digits(127, 127, 127, 127, 127, 127, 127, 127),
		1 << 56:        digits(0, 0, 0, 0, 0, 0, 0, 0, 1),
		greatest - 1:   digits(127, 127, 127, 127, 127, 127, 127, 127, 63),
		greatest:       digits(0, 0, 0, 0, 0, 0, 0, 0, 64),
		greatest - 128: digits(0, 127, 127, 127, 127, 127, 127, 127, 63),
	}
}

// none are bytes that begin with no number.
func none() []string {
	return []string{
		"", "\x80", "\xff", "\x80\x80", "\xff\xff\xff",
		"\x80\x00", "\x81\x00", "\xff\x00", "\x80\x80\x00", "\xac\x82\x00", "\x80\x00\x01", "\xff\x00\x7f",
		digits(0, 0, 0, 0, 0, 0, 0, 0, 0), digits(1, 0, 0, 0, 0, 0, 0, 0, 0),
		digits(1, 0, 0, 0, 0, 0, 0, 0, 64), digits(0, 0, 0, 0, 0, 0, 0, 1, 64), digits(0, 0, 0, 0, 0, 0, 0, 0, 65),
		digits(127, 127, 127, 127, 127, 127, 127, 127, 127), digits(127, 127, 127, 127, 127, 127, 127, 127, 127, 127),
		digits(0, 0, 0, 0, 0, 0, 0, 0, 64, 0), digits(5, 0, 0, 0, 0, 0, 0, 0, 0, 0), digits(5, 0, 0, 0, 0, 0, 0, 0, 0, 0, 0),
		digits(0, 0, 0, 0, 0, 0, 0, 0, 0, 1), digits(5, 0, 0, 0, 0, 0, 0, 0, 0, 1), digits(5, 0, 0, 0, 0, 0, 0, 0, 0, 2),
		digits(5, 0, 0, 0, 0, 0, 0, 0, 0, 0, 1), digits(0, 0, 0, 0, 0, 0, 0, 0, 0, 0, 0, 0, 0, 0, 0, 0, 0, 0, 1),
		strings.Repeat("\x80", 9), strings.Repeat("\x80", 10), strings.Repeat("\xff", long), strings.Repeat("\x80", long) + "\x01",
	}
}

// short is a text, cut so that it can be told.
func short(s string) string {
	return s[:min(len(s), 40)]
}

// readNum holds the next number, and how many bytes are left behind it.
func readNum(t *testing.T, r *code.Reader, most, want, left int) {
	t.Helper()
	if n, e := r.Num(most); n != want || e != nil || r.Left() != left {
		t.Errorf("Num(%d) = %d, %v, %d left: not %d, %d left", most, n, e, r.Left(), want, left)
	}
}

// readStr holds the next text, and how many bytes are left behind it.
func readStr(t *testing.T, r *code.Reader, most int, want string, left int) {
	t.Helper()
	if s, e := r.Str(most); s != want || e != nil || r.Left() != left {
		t.Errorf("Str(%d) = %q, %v, %d left: not %q, %d left", most, short(s), e, r.Left(), short(want), left)
	}
}

// refuseNum holds that there is no next number, and that nothing is read.
func refuseNum(t *testing.T, r *code.Reader, most int) {
	t.Helper()
	left := r.Left()
	if n, e := r.Num(most); n != 0 || fail.Code(e) != int(api.ErrForm) || r.Left() != left {
		t.Errorf("Num(%d) = %d, %v, %d left of %d", most, n, e, r.Left(), left)
	}
}

// refuseStr holds that there is no next text, and that nothing is read.
func refuseStr(t *testing.T, r *code.Reader, most int) {
	t.Helper()
	left := r.Left()
	if s, e := r.Str(most); s != "" || fail.Code(e) != int(api.ErrForm) || r.Left() != left {
		t.Errorf("Str(%d) = %q, %v, %d left of %d", most, short(s), e, r.Left(), left)
	}
}

// 4.1

func TestNumLaid(t *testing.T) {
	for n, want := range numbers() {
		if s := code.Num(n); s != want {
			t.Errorf("Num(%d) = %q, not %q", n, s, want)
		}
	}
}

func TestNumOfAnother(t *testing.T) {
	for _, n := range []int{-1, -2, -128, -300, math.MinInt32, math.MinInt, math.MinInt + 1, greatest + 1, greatest + 128, math.MaxInt} {
		if s := code.Num(n); s != "" {
			t.Errorf("Num(%d) = %q", n, s)
		}
	}
}

func TestStrLaid(t *testing.T) {
	for s, want := range map[string]string{
		"":                       "\x00",
		"a":                      "\x01a",
		"abc":                    "\x03abc",
		"\x00":                   "\x01\x00",
		"\x80\xff":               "\x02\x80\xff",
		"é":                      "\x02é",
		strings.Repeat("a", 127): "\x7f" + strings.Repeat("a", 127),
		strings.Repeat("b", 128): "\x80\x01" + strings.Repeat("b", 128),
		strings.Repeat("c", 300): "\xac\x02" + strings.Repeat("c", 300),
	} {
		if got := code.Str(s); got != want {
			t.Errorf("Str(%q) = %q", short(s), short(got))
		}
	}
}

// 4.2

func TestReaderNum(t *testing.T) {
	for n, s := range numbers() {
		for _, behind := range []string{"", "\x00", "\x80", "\xff\xff", "abc"} {
			readNum(t, code.New(s+behind), n, n, len(behind))
			readNum(t, code.New(s+behind), math.MaxInt, n, len(behind))
		}
	}
}

func TestReaderNumAboveMost(t *testing.T) {
	for n, s := range numbers() {
		for _, most := range []int{n - 1, -1, math.MinInt} {
			r := code.New(s + "\x05")
			refuseNum(t, r, most)
			readNum(t, r, n, n, 1)
			readNum(t, r, 5, 5, 0)
		}
	}
}

func TestReaderNumNone(t *testing.T) {
	for _, s := range none() {
		for _, most := range []int{math.MinInt, -1, 0, 1, 127, greatest, math.MaxInt} {
			r := code.New(s)
			refuseNum(t, r, most)
			refuseNum(t, r, most)
		}
	}
}

func TestReaderStr(t *testing.T) {
	for _, s := range []string{"", "a", "abc", "\x00", "\x80\x00", "\xff", strings.Repeat("a", 127), strings.Repeat("b", 128), strings.Repeat("c", long)} {
		for _, behind := range []string{"", "\x00", "\x80", "abc"} {
			readStr(t, code.New(code.Str(s)+behind), len(s), s, len(behind))
			readStr(t, code.New(code.Str(s)+behind), math.MaxInt, s, len(behind))
			r := code.New(code.Str(s) + behind)
			refuseStr(t, r, len(s)-1)
			refuseStr(t, r, -1)
			refuseStr(t, r, math.MinInt)
			readStr(t, r, len(s), s, len(behind))
		}
	}
}

func TestReaderStrNone(t *testing.T) {
	wrong := append(none(),
		"\x01", "\x02a", "\x03ab", "\x05x", "\x7f", "\x80\x01"+strings.Repeat("a", 127), "\x80\x80\x01abc",
		code.Num(greatest), code.Num(greatest)+"abc", code.Num(greatest-1)+"abc", code.Num(math.MaxInt32)+"abc",
		code.Num(long)+strings.Repeat("a", long-1))
	for _, s := range wrong {
		for _, most := range []int{math.MinInt, -1, 0, 1, 127, greatest, math.MaxInt} {
			r := code.New(s)
			refuseStr(t, r, most)
			refuseStr(t, r, most)
		}
	}
}

func TestReaderCutText(t *testing.T) {
	r := code.New("\x03ab")
	refuseStr(t, r, 9)
	readNum(t, r, 3, 3, 2)
	refuseStr(t, r, 9)
	readNum(t, r, 'a', 'a', 1)
	readNum(t, r, 'b', 'b', 0)
	refuseNum(t, r, 9)
	refuseStr(t, r, 9)
}

func TestReaderInTurn(t *testing.T) {
	r := code.New(code.Num(300) + code.Str("abc") + code.Str("") + code.Num(0) + code.Num(greatest))
	refuseStr(t, r, 9)
	refuseNum(t, r, 299)
	readNum(t, r, 300, 300, 15)
	refuseStr(t, r, 2)
	readStr(t, r, 3, "abc", 11)
	readStr(t, r, 0, "", 10)
	readNum(t, r, 0, 0, 9)
	refuseNum(t, r, greatest-1)
	refuseStr(t, r, greatest)
	readNum(t, r, greatest, greatest, 0)
	refuseNum(t, r, greatest)
}

func TestReadersApart(t *testing.T) {
	s := code.Str("abc") + code.Num(7)
	one, two := code.New(s), code.New(s)
	readStr(t, one, 3, "abc", 1)
	readStr(t, two, 3, "abc", 1)
	readNum(t, one, 7, 7, 0)
	if two.Left() != 1 {
		t.Errorf("%d left", two.Left())
	}
}

func TestReaderNil(t *testing.T) {
	var r *code.Reader
	for _, most := range []int{math.MinInt, -1, 0, 5, math.MaxInt} {
		if n, e := r.Num(most); n != 0 || fail.Code(e) != int(api.ErrArg) {
			t.Errorf("Num(%d) of nil = %d, %v", most, n, e)
		}
		if s, e := r.Str(most); s != "" || fail.Code(e) != int(api.ErrArg) {
			t.Errorf("Str(%d) of nil = %q, %v", most, s, e)
		}
	}
	if r.Left() != 0 {
		t.Errorf("%d left of nil", r.Left())
	}
}

func TestLeft(t *testing.T) {
	for _, s := range []string{"", "a", "\x80", "é", strings.Repeat("a", long)} {
		if n := code.New(s).Left(); n != len(s) {
			t.Errorf("%d left of %d", n, len(s))
		}
	}
}

// 4.3

func TestThereAndBack(t *testing.T) {
	for bit := range 63 {
		for _, n := range []int{1<<bit - 1, 1 << bit, 1<<bit + 1} {
			if n <= greatest {
				readNum(t, code.New(code.Num(n)+"x"), n, n, 1)
			}
		}
	}
	for n := range 70000 {
		if got, e := code.New(code.Num(n)).Num(n); got != n || e != nil {
			t.Fatalf("%d is read as %d, %v", n, got, e)
		}
	}
	for n := range 600 {
		s := strings.Repeat("\x80", n)
		readStr(t, code.New(code.Str(s)+"x"), n, s, 1)
	}
}

// Of all bytes that a number or a text is read from, it lays the same.
func TestNothingElse(t *testing.T) {
	for i := range 1 << 24 {
		s := string([]byte{byte(i), byte(i >> 8), byte(i >> 16)})
		r := code.New(s)
		if n, e := r.Num(math.MaxInt); e == nil && code.Num(n) != s[:len(s)-r.Left()] {
			t.Fatalf("%q is read as %d", s, n)
		}
	}
	for i := range 1 << 16 {
		s := string([]byte{byte(i), byte(i >> 8), 'x', 'y', 'z'})
		r := code.New(s)
		if text, e := r.Str(math.MaxInt); e == nil && code.Str(text) != s[:len(s)-r.Left()] {
			t.Fatalf("%q is read as %q", s, text)
		}
	}
}

// At the greatest number's end: the last digits that are, and are none.
func TestNothingElseNearGreatest(t *testing.T) {
	for last := range 256 {
		for _, low := range []byte{0, 1, 127} {
			s := digits(low, 0, 0, 0, 0, 0, 0, 0, 0)
			s = s[:8] + string([]byte{byte(last)})
			r := code.New(s)
			if last == 0 || last > 64 || last == 64 && low > 0 {
				refuseNum(t, r, math.MaxInt)
				continue
			}
			n := last<<56 | int(low)
			readNum(t, r, n, n, 0)
		}
	}
}
