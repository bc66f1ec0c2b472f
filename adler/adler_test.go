package adler_test

import (
	"hash/adler32"
	"math"
	"strings"
	"testing"

	"shale/adler"
)

const modulus = 65521

// texts are of many lengths and bytes: short ones, and those at which a half
// passes the modulus.
func texts() []string {
	all := []string{
		"", "a", "abc", "Wikipedia", "\x00", "\x00\x00", "\xff", "\x80é€",
		strings.Repeat("\x00", modulus-1), strings.Repeat("\x00", modulus), strings.Repeat("\x00", modulus+1),
	}
	for _, n := range []int{255, 256, 257, 258, 361, 362, 5551, 5552, 5553, 5600, 65520, 65521, 65522, 70000, 200000} {
		all = append(all, strings.Repeat("\xff", n), mixed(n))
	}
	return all
}

// mixed is a text of n bytes of all kinds.
func mixed(n int) string {
	text := make([]byte, n)
	state := uint32(n) + 1
	for i := range text {
		state = state*1664525 + 1013904223
		text[i] = byte(state >> 24)
	}
	return string(text)
}

// 2.1

func TestSum(t *testing.T) {
	cases := []struct {
		s    string
		want uint32
	}{
		{"", 1},
		{"\x00", 0x00010001},
		{"\x00\x00", 0x00020001},
		{"\xff", 0x01000100},
		{"a", 0x00620062},
		{"abc", 0x024d0127},
		{"Wikipedia", 0x11e60398}, // the chapter's example
		{strings.Repeat("\x00", modulus-1), 0xfff00001},
		{strings.Repeat("\x00", modulus), 0x00000001},
		{strings.Repeat("\xff", 256) + "\xef", 0x07fffff0}, // a is 65520
		{strings.Repeat("\xff", 256) + "\xf0", 0x08000000}, // a is 0
		{strings.Repeat("\xff", 256) + "\xf1", 0x08010001},
	}
	for _, c := range cases {
		if got := adler.Sum(c.s); got != c.want {
			t.Errorf("Sum of %d bytes = %08x, want %08x", len(c.s), got, c.want)
		}
	}
}

func TestSumIsThatOfTheLibrary(t *testing.T) {
	for _, s := range texts() {
		if got, want := adler.Sum(s), adler32.Checksum([]byte(s)); got != want {
			t.Errorf("Sum of %d bytes = %08x, want %08x", len(s), got, want)
		}
	}
}

// 2.2

func TestBothIsTheSumOfTheTwo(t *testing.T) {
	for _, s := range texts() {
		for _, u := range texts() {
			got := adler.Both(adler.Sum(s), adler.Sum(u), len(u))
			if want := adler32.Checksum([]byte(s + u)); got != want {
				t.Errorf("Both of %d and %d bytes = %08x, want %08x", len(s), len(u), got, want)
			}
		}
	}
}

func TestBothAtTheEndsOfAHalf(t *testing.T) {
	zero := strings.Repeat("\xff", 256) + "\xf0"
	last := strings.Repeat("\xff", 256) + "\xef"
	for _, s := range []string{zero, last} {
		for _, u := range []string{"", "\x00", "\x01", zero, last, mixed(modulus - 1)} {
			got := adler.Both(adler.Sum(s), adler.Sum(u), len(u))
			if want := adler32.Checksum([]byte(s + u)); got != want {
				t.Errorf("Both(%08x, %08x, %d) = %08x, want %08x", adler.Sum(s), adler.Sum(u), len(u), got, want)
			}
		}
	}
}

func TestBothOfAnotherLengthIsAsOfNone(t *testing.T) {
	for _, n := range []int{-1, -3, -modulus, math.MinInt32, math.MinInt64} {
		if got := adler.Both(5, 1, n); got != 5 {
			t.Errorf("Both(5, 1, %d) = %x", n, got)
		}
		x, y := adler.Sum("one"), adler.Sum("two")
		if got, want := adler.Both(x, y, n), adler.Both(x, y, 0); got != want {
			t.Errorf("Both(%x, %x, %d) = %x, want %x", x, y, n, got, want)
		}
	}
}

// A text of zero bytes that is too long to be made: its a is 1 and its b the
// rest of its length.
func TestBothOfLongTexts(t *testing.T) {
	x := adler.Sum("Wikipedia")
	for _, n := range []int{math.MaxInt32 - 1, math.MaxInt32, math.MaxInt32 + 1, math.MaxUint32, math.MaxInt64} {
		rest := n % modulus
		got := adler.Both(x, uint32(rest)<<16|1, n)
		want := adler32.Checksum([]byte("Wikipedia" + strings.Repeat("\x00", rest)))
		if got != want {
			t.Errorf("Both of %d bytes = %08x, want %08x", n, got, want)
		}
	}
}

func TestBothOfThreeInEitherOrder(t *testing.T) {
	s, u, v := mixed(300), mixed(70000), "tail"
	x, y, z := adler.Sum(s), adler.Sum(u), adler.Sum(v)
	left := adler.Both(adler.Both(x, y, len(u)), z, len(v))
	right := adler.Both(x, adler.Both(y, z, len(v)), len(u)+len(v))
	if want := adler.Sum(s + u + v); left != want || right != want {
		t.Errorf("Both of three = %08x and %08x, want %08x", left, right, want)
	}
}

func TestFour(t *testing.T) {
	cases := []struct {
		x    uint32
		want string
	}{
		{0, "\x00\x00\x00\x00"},
		{1, "\x00\x00\x00\x01"},
		{0x80, "\x00\x00\x00\x80"},
		{0x01020304, "\x01\x02\x03\x04"},
		{0xfffefdfc, "\xff\xfe\xfd\xfc"},
		{math.MaxUint32, "\xff\xff\xff\xff"},
	}
	for _, c := range cases {
		if got := adler.Four(c.x); got != c.want {
			t.Errorf("Four(%08x) = %q, want %q", c.x, got, c.want)
		}
		if got := adler.Number(c.want); got != c.x {
			t.Errorf("Number(%q) = %08x, want %08x", c.want, got, c.x)
		}
	}
}

func TestNumber(t *testing.T) {
	cases := []struct {
		s    string
		want uint32
	}{
		{"", 0},
		{"\x01", 0x01000000},
		{"\x01\x02", 0x01020000},
		{"\x01\x02\x03", 0x01020300},
		{"\x01\x02\x03\x04", 0x01020304},
		{"\x01\x02\x03\x04\x05", 0x01020304},
		{"\xff\xfe\xfd\xfc" + strings.Repeat("\xff", 100), 0xfffefdfc},
		{"\xff", 0xff000000},
		{"é", 0xc3a90000},
	}
	for _, c := range cases {
		if got := adler.Number(c.s); got != c.want {
			t.Errorf("Number(%q) = %08x, want %08x", c.s, got, c.want)
		}
	}
}

// 2.3

func TestOneByteUnlikeIsTold(t *testing.T) {
	for _, s := range []string{"\x00", "\xff", "Wikipedia", mixed(600), strings.Repeat("\xff", 258)} {
		sum := adler.Sum(s)
		for i := range len(s) {
			for c := range 256 {
				other := s[:i] + string([]byte{byte(c)}) + s[i+1:]
				if got := adler.Sum(other); (got == sum) != (other == s) {
					t.Fatalf("Sum with byte %d of %d made %02x = %08x, that of the text %08x", i, len(s), c, got, sum)
				}
			}
		}
	}
}
