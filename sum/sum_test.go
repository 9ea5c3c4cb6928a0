package sum

import (
	"bytes"
	"hash/crc32"
	"strings"
	"sync"
	"testing"
)

// samples returns byte strings of many lengths, with every byte value among them.
func samples() [][]byte {
	all := [][]byte{
		nil,
		{},
		{0},
		{0xff},
		{0, 0, 0, 0},
		{0xff, 0xff, 0xff, 0xff},
		{0xff, 0xff, 0xff, 0xff, 0, 0, 0x12},
		[]byte("a"),
		[]byte("123456789"),
		[]byte("\xc3\x28 not UTF-8 \x80"),
	}
	seed := uint32(1)
	for n := 1; n <= 600; n += 1 + n/8 {
		b := make([]byte, n)
		for i := range b {
			seed = seed*1664525 + 1013904223
			b[i] = byte(seed >> 24)
		}
		all = append(all, b)
	}
	row := make([]byte, 256)
	for i := range row {
		row[i] = byte(i)
	}
	return append(all, row)
}

// literal is the chapter's definition, word for word, in wide numbers.
func literal(b []byte) uint32 {
	c := uint64(1)<<32 - 1
	for _, x := range b {
		c ^= uint64(x)
		for i := 0; i < 8; i++ {
			if c%2 == 0 {
				c = c / 2
			} else {
				c = (c / 2) ^ 0xedb88320
			}
		}
	}
	return uint32(c ^ (uint64(1)<<32 - 1))
}

func TestP1_1_Examples(t *testing.T) {
	if c := Text("123456789"); c != 0xcbf43926 {
		t.Errorf("Text(123456789) = %08x", c)
	}
	if c := Sum([]byte{}); c != 0 {
		t.Errorf("Sum(empty) = %08x", c)
	}
	if c := Add(Text("1234"), []byte("56789")); c != 0xcbf43926 {
		t.Errorf("Add(Text(1234), 56789) = %08x", c)
	}
}

func TestP1_1_Definition(t *testing.T) {
	for _, b := range samples() {
		want := literal(b)
		if got := crc32.ChecksumIEEE(b); got != want {
			t.Fatalf("the definition of %x is %08x, the library says %08x", b, want, got)
		}
		if got := Sum(b); got != want {
			t.Errorf("Sum(%x) = %08x, want %08x", b, got, want)
		}
		if got := Text(string(b)); got != want {
			t.Errorf("Text(%x) = %08x, want %08x", b, got, want)
		}
		if got := Add(0, b); got != want {
			t.Errorf("Add(0, %x) = %08x, want %08x", b, got, want)
		}
	}
}

func TestP1_1_EveryByte(t *testing.T) {
	for x := range 256 {
		for y := range 256 {
			b := []byte{byte(x), byte(y)}
			if got, want := Sum(b), literal(b); got != want {
				t.Fatalf("Sum(%x) = %08x, want %08x", b, got, want)
			}
		}
	}
}

// Every number is the checksum of some string of four bytes, so Add is specified for every c.
func TestP1_1_AddToAnyNumber(t *testing.T) {
	for _, c := range []uint32{0, 1, 7, 0x80000000, 0xedb88320, 0xfffffffe, 0xffffffff} {
		for _, b := range samples() {
			if got, want := Add(c, b), crc32.Update(c, crc32.IEEETable, b); got != want {
				t.Errorf("Add(%08x, %x) = %08x, want %08x", c, b, got, want)
			}
		}
	}
}

func TestP1_2_OneBehindAnother(t *testing.T) {
	for _, whole := range samples() {
		want := Sum(whole)
		for k := 0; k <= len(whole); k++ {
			if got := Add(Sum(whole[:k]), whole[k:]); got != want {
				t.Errorf("%x split at %d: %08x, want %08x", whole, k, got, want)
			}
		}
	}
	parts := samples()
	var whole []byte
	c := Text("")
	for _, p := range parts {
		whole = append(whole, p...)
		c = Add(c, p)
		if c != Sum(whole) {
			t.Fatalf("after %d bytes: %08x, want %08x", len(whole), c, Sum(whole))
		}
	}
}

func TestP1_2_Empty(t *testing.T) {
	if Sum(nil) != 0 || Sum([]byte{}) != 0 || Text("") != 0 {
		t.Error("the checksum of the empty string is not 0")
	}
	for _, c := range []uint32{0, 1, 7, 0x80000000, 0xffffffff} {
		if Add(c, nil) != c || Add(c, []byte{}) != c {
			t.Errorf("Add(%08x, nothing) is not %08x", c, c)
		}
	}
}

func TestP1_2_OneByteDiffers(t *testing.T) {
	for _, b := range samples() {
		if len(b) > 100 {
			continue
		}
		want := Sum(b)
		for i := range b {
			for x := 1; x < 256; x++ {
				other := bytes.Clone(b)
				other[i] ^= byte(x)
				if Sum(other) == want {
					t.Fatalf("%x and %x have one checksum", b, other)
				}
				if Text(string(other)) == want {
					t.Fatalf("texts %x and %x have one checksum", b, other)
				}
			}
		}
	}
}

func TestArgumentsAreUntouched(t *testing.T) {
	full := []byte("a slice with bytes behind its end")
	before := bytes.Clone(full)
	b := full[:7]
	Sum(b)
	Add(99, b)
	if !bytes.Equal(full, before) {
		t.Errorf("the argument became %q", full)
	}
	first := Sum(b)
	full[9] = 'X'
	if Sum(b) != first {
		t.Error("bytes behind the end count")
	}
	full[0] = 'X'
	if Sum(b) != literal(b) {
		t.Error("an earlier argument was kept")
	}
}

func TestManyGoroutines(t *testing.T) {
	all := samples()
	var wait sync.WaitGroup
	for range 8 {
		wait.Go(func() {
			for _, b := range all {
				if Sum(b) != literal(b) || Text(string(b)) != literal(b) {
					t.Errorf("%x has another checksum among goroutines", b)
				}
			}
		})
	}
	wait.Wait()
}

func TestLongText(t *testing.T) {
	s := strings.Repeat("0123456789abcdef", 1<<18)
	want := crc32.ChecksumIEEE([]byte(s))
	if c := Text(s); c != want {
		t.Errorf("Text of %d bytes = %08x, want %08x", len(s), c, want)
	}
}
