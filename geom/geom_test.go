package geom

import (
	"bytes"
	"encoding/binary"
	"hash/crc32"
	"math"
	"sync"
	"testing"

	"fusee/api"
)

// sealed returns a line as the chapter says it: nine bytes, their checksum, zeros. The library's encoding and checksum stand in for those of the project.
func sealed(nine []byte) []byte {
	b := binary.LittleEndian.AppendUint32(bytes.Clone(nine), crc32.ChecksumIEEE(nine))
	return append(b, make([]byte, 64-len(b))...)
}

// superBytes returns what a superblock for this number of lines would be, valid or not.
func superBytes(lines uint32) []byte {
	return sealed(binary.LittleEndian.AppendUint32([]byte{api.TagSuper, 70, 85, 83, 69}, lines))
}

// clockBytes returns what the clock line with the number v is.
func clockBytes(v uint64) []byte {
	return sealed(binary.LittleEndian.AppendUint64([]byte{api.TagClock}, v))
}

// numbers returns numbers of a clock line, the edges among them.
func numbers() []uint64 {
	all := []uint64{0, 1, 2, 7, 255, 256, api.MaxSeen - 1, api.MaxSeen, api.MaxSeen + 1, api.MaxNumber, math.MaxInt64, math.MaxInt64 + 1, math.MaxUint64 - 1, math.MaxUint64}
	for shift := range 64 {
		all = append(all, 1<<shift, 0x0807060504030201<<shift)
	}
	return all
}

// noSuper fails the test if b is taken for a superblock.
func noSuper(t *testing.T, what string, b []byte) {
	t.Helper()
	if n, ok := IsSuper(b); n != 0 || ok {
		t.Errorf("%s: IsSuper(%x) = %d, %v", what, b, n, ok)
	}
}

// noClock fails the test if b is taken for a clock line.
func noClock(t *testing.T, what string, b []byte) {
	t.Helper()
	if v, ok := IsClock(b); v != 0 || ok {
		t.Errorf("%s: IsClock(%x) = %d, %v", what, b, v, ok)
	}
}

func TestExamples(t *testing.T) {
	for _, x := range []struct {
		what      string
		got, want int
	}{
		{"Slabs(10)", Slabs(10), 1},
		{"Slabs(9)", Slabs(9), 0},
		{"Slabs(258)", Slabs(258), 32},
		{"Slab(1)", Slab(1), 10},
		{"SlabOf(17)", SlabOf(17), 1},
		{"SlabOf(1)", SlabOf(1), -1},
	} {
		if x.got != x.want {
			t.Errorf("%s = %d, want %d", x.what, x.got, x.want)
		}
	}
	if b, e := Super(9); b != nil || e != api.ErrRange {
		t.Errorf("Super(9) = %x, %d", b, e)
	}
	if v, ok := IsClock(Clock(7)); v != 7 || !ok {
		t.Errorf("IsClock(Clock(7)) = %d, %v", v, ok)
	}
	d := made(t, 10)
	if v, e := Open(d); v != 0 || e != api.ErrForm {
		t.Errorf("Open of a new device = %d, %d", v, e)
	}
	if e := Format(d); e != api.OK {
		t.Errorf("Format: %d", e)
	}
	if v, e := Open(d); v != 0 || e != api.OK {
		t.Errorf("Open after Format = %d, %d", v, e)
	}
}

// The two lines byte by byte, so that the test's own encoding is not taken on trust.
func TestP4_1_BytesAsTheyAre(t *testing.T) {
	want := make([]byte, 64)
	copy(want, []byte{4, 'F', 'U', 'S', 'E', 2, 1, 0, 0})
	binary.LittleEndian.PutUint32(want[9:], crc32.ChecksumIEEE(want[:9]))
	if b, e := Super(258); e != api.OK || !bytes.Equal(b, want) {
		t.Errorf("Super(258) = %x, %d, want %x", b, e, want)
	}
	want = make([]byte, 64)
	copy(want, []byte{3, 8, 7, 6, 5, 4, 3, 2, 1})
	binary.LittleEndian.PutUint32(want[9:], crc32.ChecksumIEEE(want[:9]))
	if b := Clock(0x0102030405060708); !bytes.Equal(b, want) {
		t.Errorf("Clock(0102030405060708) = %x, want %x", b, want)
	}
}

func TestP4_1_Super(t *testing.T) {
	for lines := -300; lines <= 1000; lines++ {
		b, e := Super(lines)
		if lines < 10 || lines > api.MaxLines {
			if b != nil || e != api.ErrRange {
				t.Errorf("Super(%d) = %x, %d", lines, b, e)
			}
			continue
		}
		if e != api.OK || !bytes.Equal(b, superBytes(uint32(lines))) {
			t.Errorf("Super(%d) = %x, %d", lines, b, e)
		}
		if n, ok := IsSuper(b); n != lines || !ok {
			t.Errorf("IsSuper(Super(%d)) = %d, %v", lines, n, ok)
		}
	}
}

func TestP4_1_SuperOfFarNumbers(t *testing.T) {
	far := []int{math.MinInt, math.MinInt + 10, math.MinInt32, -1 << 16, 1 << 16, math.MaxInt32, math.MaxInt - 10, math.MaxInt}
	// Numbers that would be valid if only their low bytes counted.
	for _, shift := range []int{16, 24, 32, 48} {
		far = append(far, 1<<shift+10, 1<<shift+api.MaxLines, -1<<shift+10)
	}
	for _, lines := range far {
		if b, e := Super(lines); b != nil || e != api.ErrRange {
			t.Errorf("Super(%d) = %x, %d", lines, b, e)
		}
	}
}

func TestP4_1_Clock(t *testing.T) {
	for _, v := range numbers() {
		b := Clock(v)
		if !bytes.Equal(b, clockBytes(v)) {
			t.Errorf("Clock(%d) = %x, want %x", v, b, clockBytes(v))
		}
		if got, ok := IsClock(b); got != v || !ok {
			t.Errorf("IsClock(Clock(%d)) = %d, %v", v, got, ok)
		}
	}
}

func TestP4_1_OtherLengths(t *testing.T) {
	super, _ := Super(10)
	clock := Clock(0)
	noSuper(t, "nothing", nil)
	noClock(t, "nothing", nil)
	for length := range 130 {
		b := make([]byte, length)
		noSuper(t, "zeros", b)
		noClock(t, "zeros", b)
		if length == 64 {
			continue
		}
		copy(b, super)
		noSuper(t, "another length", b)
		copy(b, clock)
		noClock(t, "another length", b)
	}
	// The capacity behind the end is not part of what is asked about.
	noSuper(t, "short, with capacity", super[:63])
	noClock(t, "short, with capacity", clock[:63])
	if n, ok := IsSuper(append(super, 1, 2, 3)[:64]); n != 10 || !ok {
		t.Errorf("64 bytes with capacity behind them: %d, %v", n, ok)
	}
}

func TestP4_1_OneByteTurned(t *testing.T) {
	var supers, clocks [][]byte
	for _, lines := range []uint32{10, 11, 255, 256, api.MaxLines} {
		supers = append(supers, superBytes(lines))
	}
	for _, v := range []uint64{0, 1, api.MaxSeen, math.MaxUint64} {
		clocks = append(clocks, clockBytes(v))
	}
	for at := range 64 {
		for turn := 1; turn < 256; turn++ {
			for _, b := range supers {
				b[at] ^= byte(turn)
				noSuper(t, "one byte turned", b)
				noClock(t, "one byte turned", b)
				b[at] ^= byte(turn)
			}
			for _, b := range clocks {
				b[at] ^= byte(turn)
				noClock(t, "one byte turned", b)
				noSuper(t, "one byte turned", b)
				b[at] ^= byte(turn)
			}
		}
	}
}

// The checksum fits in all of these, but what it seals is no superblock.
func TestP4_1_SealedButNoSuper(t *testing.T) {
	for lines := range uint32(1000) {
		n, ok := IsSuper(superBytes(lines))
		valid := lines >= 10 && lines <= api.MaxLines
		if ok != valid || ok && n != int(lines) || !ok && n != 0 {
			t.Errorf("a superblock for %d lines: %d, %v", lines, n, ok)
		}
	}
	for _, lines := range []uint32{1 << 16, 1<<16 + 10, 1<<24 + 10, 1<<31 - 1, 1 << 31, 1<<31 + 10, 1<<32 - 1, 1<<32 - 10} {
		noSuper(t, "too many lines", superBytes(lines))
	}
	for at := range 5 {
		nine := bytes.Clone(superBytes(10)[:9])
		for x := range 256 {
			nine[at] = byte(x)
			if b := sealed(nine); !bytes.Equal(b, superBytes(10)) {
				noSuper(t, "another tag or name", b)
			}
		}
	}
}

func TestP4_1_SealedButNoClock(t *testing.T) {
	nine := bytes.Clone(clockBytes(99)[:9])
	for tag := range 256 {
		nine[0] = byte(tag)
		if tag == api.TagClock {
			continue
		}
		noClock(t, "another tag", sealed(nine))
	}
	// The name of a superblock is a number as good as any to a clock line.
	named := binary.LittleEndian.Uint64([]byte{70, 85, 83, 69, 10, 0, 0, 0})
	if v, ok := IsClock(clockBytes(named)); v != named || !ok {
		t.Errorf("the clock line %d: %d, %v", named, v, ok)
	}
	noSuper(t, "a clock line that bears the name", clockBytes(named))
}

func TestP4_1_BytesBehindTheChecksum(t *testing.T) {
	for from := 13; from < 64; from++ {
		for _, x := range []byte{1, 0x80, 0xff} {
			super, clock := superBytes(20), clockBytes(20)
			for at := from; at < 64; at++ {
				super[at], clock[at] = x, x
			}
			noSuper(t, "bytes behind the checksum", super)
			noClock(t, "bytes behind the checksum", clock)
		}
	}
}

func TestP4_1_OneIsNotTheOther(t *testing.T) {
	for lines := 10; lines <= api.MaxLines; lines++ {
		b, _ := Super(lines)
		noClock(t, "a superblock", b)
	}
	for _, v := range numbers() {
		noSuper(t, "a clock line", Clock(v))
	}
}

func TestP4_1_MemoryIsNotShared(t *testing.T) {
	first, _ := Super(30)
	again, _ := Super(30)
	clock, clockAgain := Clock(5), Clock(5)
	for i := range first {
		first[i], clock[i] = 0xee, 0xee
	}
	_ = append(first[:5], 0xdd)
	later, _ := Super(30)
	if !bytes.Equal(again, superBytes(30)) || !bytes.Equal(later, superBytes(30)) {
		t.Errorf("Super(30) became %x, %x", again, later)
	}
	if !bytes.Equal(clockAgain, clockBytes(5)) || !bytes.Equal(Clock(5), clockBytes(5)) {
		t.Errorf("Clock(5) became %x, %x", clockAgain, Clock(5))
	}
	whole := append(superBytes(30), 1, 2, 3)
	IsSuper(whole[:64])
	IsClock(whole[:64])
	if !bytes.Equal(whole, append(superBytes(30), 1, 2, 3)) {
		t.Errorf("an argument became %x", whole)
	}
}

func TestP4_2_Slabs(t *testing.T) {
	for lines := -20; lines <= 300; lines++ {
		// Counted slab by slab, each with its eight lines below the number of lines.
		want := 0
		for last := 9; last < min(lines, 258); last += 8 {
			want++
		}
		if got := Slabs(lines); got != want {
			t.Errorf("Slabs(%d) = %d, want %d", lines, got, want)
		}
	}
	for lines, want := range map[int]int{math.MinInt: 0, math.MinInt + 1: 0, -1: 0, 0: 0, 2: 0, 9: 0, 10: 1, 11: 1, 17: 1, 18: 2, 257: 31, 258: 32, 259: 32, 266: 32, 1 << 40: 32, math.MaxInt: 32} {
		if got := Slabs(lines); got != want {
			t.Errorf("Slabs(%d) = %d, want %d", lines, got, want)
		}
	}
}

func TestP4_2_Slab(t *testing.T) {
	for k := -100; k <= 100; k++ {
		want := -1
		if k >= 0 && k <= 31 {
			want = 2 + 8*k
		}
		if got := Slab(k); got != want {
			t.Errorf("Slab(%d) = %d, want %d", k, got, want)
		}
	}
	for _, k := range []int{math.MinInt, math.MinInt + 1, -1 << 61, 1 << 61, 1<<61 + 1, math.MaxInt} {
		if got := Slab(k); got != -1 {
			t.Errorf("Slab(%d) = %d", k, got)
		}
	}
}

func TestP4_2_SlabOf(t *testing.T) {
	want := map[int]int{}
	for k := range 32 {
		for i := range 8 {
			want[2+8*k+i] = k
		}
	}
	for line := -300; line <= 600; line++ {
		k, ok := want[line]
		if !ok {
			k = -1
		}
		if got := SlabOf(line); got != k {
			t.Errorf("SlabOf(%d) = %d, want %d", line, got, k)
		}
	}
	for _, line := range []int{math.MinInt, math.MinInt + 1, math.MinInt + 2, 1 << 40, math.MaxInt} {
		if got := SlabOf(line); got != -1 {
			t.Errorf("SlabOf(%d) = %d", line, got)
		}
	}
}

// A slab begins where Slab says, contains what SlabOf says, and lies within each device that Slabs counts it for.
func TestP4_4_SlabsAndTheLinesAhead(t *testing.T) {
	for lines := 0; lines <= api.MaxLines; lines++ {
		used := make([]int, lines)
		for _, ahead := range []int{0, 1} {
			if lines >= 10 {
				used[ahead]++
			}
			if SlabOf(ahead) != -1 {
				t.Errorf("line %d is in slab %d", ahead, SlabOf(ahead))
			}
		}
		for k := range Slabs(lines) {
			for i := range api.SlabLines {
				line := Slab(k) + i
				if line >= lines || SlabOf(line) != k {
					t.Fatalf("%d lines: line %d of slab %d is line %d of slab %d", lines, i, k, line, SlabOf(line))
				}
				used[line]++
			}
		}
		for line, times := range used {
			if times > 1 {
				t.Errorf("%d lines: line %d is used %d times", lines, line, times)
			}
		}
	}
}

func TestManyGoroutines(t *testing.T) {
	var wait sync.WaitGroup
	for k := range 8 {
		wait.Go(func() {
			for lines := 10; lines <= api.MaxLines; lines++ {
				b, _ := Super(lines)
				v := uint64(lines)<<40 + uint64(k)
				n, isSuper := IsSuper(b)
				got, isClock := IsClock(Clock(v))
				if n != lines || !isSuper || got != v || !isClock {
					t.Errorf("goroutine %d: %d, %v, %d, %v", k, n, isSuper, got, isClock)
				}
			}
		})
	}
	wait.Wait()
}
