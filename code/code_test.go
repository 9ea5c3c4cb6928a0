package code

import (
	"bytes"
	"encoding/binary"
	"math"
	"sync"
	"testing"

	"fusee/api"
)

// below returns 2^(8n) - 1, the greatest integer of n bytes.
func below(n int) uint64 {
	v := uint64(0)
	for range n {
		v = v*256 + 255
	}
	return v
}

// values returns integers of every width that fit in n bytes, the edges of each width among them.
func values(n int) []uint64 {
	all := []uint64{0, 1, 2, 127, 128, 254, 255}
	for w := 2; w <= n; w++ {
		top := below(w)
		all = append(all, below(w-1)+1, below(w-1)+2, top/2, top/2+1, top-1, top, 0x0807060504030201&top, 0xf1e2d3c4b5a69788&top)
	}
	return all
}

// filled returns length bytes, no two neighbours alike and none of them 0.
func filled(length int) []byte {
	b := make([]byte, length)
	for i := range b {
		b[i] = byte(0xa1 + i%90)
	}
	return b
}

func TestP2_1_Examples(t *testing.T) {
	out, e := Put([]byte{0, 0, 0}, 1, 2, 258)
	if e != api.OK || !bytes.Equal(out, []byte{0, 2, 1}) {
		t.Errorf("Put(00 00 00, 1, 2, 258) = %x, %d", out, e)
	}
	if v, e := Get([]byte{0, 2, 1}, 1, 2); v != 258 || e != api.OK {
		t.Errorf("Get(00 02 01, 1, 2) = %d, %d", v, e)
	}
	if out, e := Put([]byte{0}, 0, 1, 256); out != nil || e != api.ErrFull {
		t.Errorf("Put(00, 0, 1, 256) = %x, %d", out, e)
	}
	if out, e := Put([]byte{0}, 0, 2, 1); out != nil || e != api.ErrRange {
		t.Errorf("Put(00, 0, 2, 1) = %x, %d", out, e)
	}
	if out, e := Put([]byte{0}, 0, 9, 1); out != nil || e != api.ErrArg {
		t.Errorf("Put(00, 0, 9, 1) = %x, %d", out, e)
	}
	if !Zeros([]byte{0, 1, 0}, 0, 1) {
		t.Error("Zeros(00 01 00, 0, 1) is false")
	}
	if !Zeros([]byte{0}, 1, 1) {
		t.Error("Zeros(00, 1, 1) is false")
	}
	if Zeros([]byte{0}, 0, 2) {
		t.Error("Zeros(00, 0, 2) is true")
	}
}

// wanted is the chapter's order of errors, each condition in numbers that can't wrap round.
func wanted(length, at, n int, v uint64, put bool) api.Errno {
	if n < 1 || n > 8 {
		return api.ErrArg
	}
	if at < 0 || at > length || length-at < n {
		return api.ErrRange
	}
	if put && n < 8 && v > below(n) {
		return api.ErrFull
	}
	return api.OK
}

func TestP2_1_Errors(t *testing.T) {
	counts := []int{math.MinInt, math.MinInt + 1, -8, -1, 0, 1, 2, 3, 4, 5, 6, 7, 8, 9, 10, 16, 64, 256, math.MaxInt - 1, math.MaxInt}
	places := []int{math.MinInt, math.MinInt + 8, -9, -8, -1, 0, 1, 2, 3, 4, 5, 6, 7, 8, 9, 10, 64, math.MaxInt - 8, math.MaxInt - 7, math.MaxInt}
	numbers := []uint64{0, 1, math.MaxUint64}
	for n := 1; n < 8; n++ {
		numbers = append(numbers, below(n), below(n)+1)
	}
	for length := 0; length <= 10; length++ {
		b := filled(length)
		for _, n := range counts {
			for _, at := range places {
				v, e := Get(b, at, n)
				if want := wanted(length, at, n, 0, false); e != want || e != api.OK && v != 0 {
					t.Errorf("Get(%d bytes, %d, %d) = %d, %d, want error %d", length, at, n, v, e, want)
				}
				for _, v := range numbers {
					out, e := Put(b, at, n, v)
					if want := wanted(length, at, n, v, true); e != want || e != api.OK && out != nil {
						t.Errorf("Put(%d bytes, %d, %d, %d) = %x, %d, want error %d", length, at, n, v, out, e, want)
					}
				}
			}
		}
		if !bytes.Equal(b, filled(length)) {
			t.Fatalf("b became %x", b)
		}
	}
}

func TestP2_1_WhichErrorIsFirst(t *testing.T) {
	b := []byte{7, 7}
	for _, x := range []struct {
		at, n int
		v     uint64
		want  api.Errno
	}{
		{-1, 0, 5, api.ErrArg},
		{3, 9, math.MaxUint64, api.ErrArg},
		{0, -1, 0, api.ErrArg},
		{0, 9, 0, api.ErrArg},
		{-1, 1, 256, api.ErrRange},
		{2, 1, 256, api.ErrRange},
		{1, 2, 65536, api.ErrRange},
		{0, 8, math.MaxUint64, api.ErrRange},
		{1, 1, 256, api.ErrFull},
		{0, 2, 65536, api.ErrFull},
		{1, 1, 255, api.OK},
		{0, 2, 65535, api.OK},
	} {
		if _, e := Put(b, x.at, x.n, x.v); e != x.want {
			t.Errorf("Put(07 07, %d, %d, %d): %d, want %d", x.at, x.n, x.v, e, x.want)
		}
		want := x.want
		if want == api.ErrFull {
			want = api.OK
		}
		if _, e := Get(b, x.at, x.n); e != want {
			t.Errorf("Get(07 07, %d, %d): %d, want %d", x.at, x.n, e, want)
		}
	}
}

func TestP2_1_EdgeOfEachWidth(t *testing.T) {
	b := make([]byte, 8)
	for n := 1; n <= 8; n++ {
		out, e := Put(b, 8-n, n, below(n))
		if e != api.OK || !Zeros(out, 0, 8-n) || !bytes.Equal(out[8-n:], bytes.Repeat([]byte{255}, n)) {
			t.Errorf("Put(.., %d, %d, %d) = %x, %d", 8-n, n, below(n), out, e)
		}
		if n == 8 {
			continue
		}
		if out, e := Put(b, 8-n, n, below(n)+1); e != api.ErrFull || out != nil {
			t.Errorf("Put(.., %d, %d, %d) = %x, %d", 8-n, n, below(n)+1, out, e)
		}
	}
	// A bit far above the width counts as well as the one just above it.
	for n := 1; n < 8; n++ {
		if _, e := Put(b, 0, n, 1<<63); e != api.ErrFull {
			t.Errorf("Put(.., 0, %d, 2^63): %d", n, e)
		}
	}
}

// TestP2_1_Bytes holds the bytes against the library's little-endian encoding.
func TestP2_1_Bytes(t *testing.T) {
	for n := 1; n <= 8; n++ {
		for _, v := range values(n) {
			whole := binary.LittleEndian.AppendUint64(nil, v)
			out, e := Put(make([]byte, n), 0, n, v)
			if e != api.OK || !bytes.Equal(out, whole[:n]) {
				t.Errorf("Put(%d bytes, 0, %d, %x) = %x, %d", n, n, v, out, e)
			}
			if got, e := Get(whole[:n], 0, n); e != api.OK || got != v {
				t.Errorf("Get(%x, 0, %d) = %x, %d", whole[:n], n, got, e)
			}
		}
	}
}

func TestP2_2_GetIsWhatWasPut(t *testing.T) {
	for n := 1; n <= 8; n++ {
		for length := n; length <= 20; length++ {
			b := filled(length)
			for at := 0; at <= length-n; at++ {
				for _, v := range values(n) {
					out, e := Put(b, at, n, v)
					if e != api.OK || len(out) != length {
						t.Fatalf("Put(%d bytes, %d, %d, %x) = %x, %d", length, at, n, v, out, e)
					}
					if got, e := Get(out, at, n); got != v || e != api.OK {
						t.Fatalf("Get(%x, %d, %d) = %x, %d, want %x", out, at, n, got, e, v)
					}
					if !bytes.Equal(out[:at], b[:at]) || !bytes.Equal(out[at+n:], b[at+n:]) {
						t.Fatalf("Put(%x, %d, %d, %x) changed other bytes: %x", b, at, n, v, out)
					}
				}
			}
			if !bytes.Equal(b, filled(length)) {
				t.Fatalf("b became %x", b)
			}
		}
	}
}

// What Get reads, Put writes: the two are inverse the other way round, too.
func TestP2_2_PutOfWhatWasGot(t *testing.T) {
	b := filled(16)
	for n := 1; n <= 8; n++ {
		for at := 0; at <= 16-n; at++ {
			v, e := Get(b, at, n)
			if e != api.OK {
				t.Fatalf("Get(.., %d, %d): %d", at, n, e)
			}
			if out, e := Put(b, at, n, v); e != api.OK || !bytes.Equal(out, b) {
				t.Errorf("Put(.., %d, %d, %x) = %x, %d, want %x", at, n, v, out, e, b)
			}
		}
	}
}

func TestP2_1_ZerosBounds(t *testing.T) {
	for _, length := range []int{0, 1, 2, 7, 64} {
		b := make([]byte, length)
		bounds := []int{math.MinInt, -length - 1, -length, -1, 0, 1, 2, 6, 7, 8, 63, 64, 65, math.MaxInt}
		for _, from := range bounds {
			for _, to := range bounds {
				want := 0 <= from && from <= to && to <= length
				if Zeros(b, from, to) != want {
					t.Errorf("Zeros(%d zeros, %d, %d) is not %v", length, from, to, want)
				}
			}
		}
	}
	for _, b := range [][]byte{nil, {}} {
		if !Zeros(b, 0, 0) || Zeros(b, 0, 1) || Zeros(b, 1, 1) || Zeros(b, -1, 0) {
			t.Error("Zeros of nothing")
		}
	}
}

// Capacity behind the end is not part of b.
func TestP2_1_ZerosWithCapacity(t *testing.T) {
	b := make([]byte, 16)[:4]
	if Zeros(b, 0, 5) || Zeros(b, 5, 5) || !Zeros(b, 4, 4) {
		t.Error("Zeros looks behind the end")
	}
}

func TestP2_1_ZerosOneByte(t *testing.T) {
	for length := 1; length <= 12; length++ {
		for k := range length {
			for _, x := range []byte{1, 2, 0x80, 0xff} {
				b := make([]byte, length)
				b[k] = x
				for from := 0; from <= length; from++ {
					for to := from; to <= length; to++ {
						want := k < from || k >= to
						if Zeros(b, from, to) != want {
							t.Errorf("Zeros(%x, %d, %d) is not %v", b, from, to, want)
						}
					}
				}
			}
		}
	}
	// An empty range is all zeros wherever it lies within b, whatever the bytes are.
	b := filled(5)
	for k := range 6 {
		if !Zeros(b, k, k) {
			t.Errorf("Zeros(%x, %d, %d) is false", b, k, k)
		}
	}
}

func TestArgumentsAreUntouched(t *testing.T) {
	full := filled(24)
	before := bytes.Clone(full)
	b := full[:10]
	out, e := Put(b, 2, 8, 0)
	if e != api.OK || len(out) != 10 {
		t.Fatalf("Put = %x, %d", out, e)
	}
	if _, e := Put(b, 3, 8, 0); e != api.ErrRange {
		t.Errorf("Put reaches into the capacity: %d", e)
	}
	if _, e := Get(b, 3, 8); e != api.ErrRange {
		t.Errorf("Get reaches into the capacity: %d", e)
	}
	Zeros(b, 0, 10)
	// Neither the answer's bytes nor what is appended to it may be the argument's memory.
	out = append(out, 1, 2, 3)
	for i := range out {
		out[i] = 0
	}
	if !bytes.Equal(full, before) {
		t.Errorf("the argument became %x", full)
	}
	first, _ := Put(b, 0, 1, 1)
	second, _ := Put(b, 0, 1, 1)
	first[0], b[1] = 77, 88
	if second[0] != 1 || second[1] != before[1] || first[1] != before[1] {
		t.Error("two answers, or an answer and its argument, share memory")
	}
}

func TestManyGoroutines(t *testing.T) {
	b := filled(16)
	var wait sync.WaitGroup
	for k := range 8 {
		wait.Go(func() {
			for at := range 9 {
				v := uint64(at)<<56 | uint64(k)
				out, e := Put(b, at, 8, v)
				if e != api.OK {
					t.Errorf("Put(.., %d, 8, %x): %d", at, v, e)
				}
				if got, _ := Get(out, at, 8); got != v {
					t.Errorf("Get(.., %d, 8) = %x, want %x", at, got, v)
				}
			}
		})
	}
	wait.Wait()
}
