package block

import (
	"encoding/binary"
	"hash/crc32"
	"math"
	"strings"

	"fusee/api"
)

// The classes as chapter 5 says them, written out.
var (
	wantSpans = [4]int{1, 2, 4, 8}
	wantCaps  = [4]int{28, 91, 217, 469}
)

// wantClass is the class that n bytes of data need, read off the caps.
func wantClass(n int) int {
	for c, most := range wantCaps {
		if n <= most {
			return c
		}
	}
	return -1
}

// wantValid is the chapter's table, row by row.
func wantValid(b api.Block) bool {
	if b.Class < 0 || b.Class > 3 {
		return false
	}
	numbered := true
	for _, v := range []uint64{b.ID, b.Ver, b.Epoch} {
		numbered = numbered && v != 0 && v <= 1<<61
	}
	k, v := len(b.Key), len(b.Value)
	switch b.Kind {
	case 0:
		return b.ID == 0 && b.Ver == 0 && b.Epoch == 0 && k == 0 && v == 0
	case 1:
		return numbered && k >= 1 && k <= 16 && v <= 400 && b.Class == wantClass(k+v)
	case 2:
		return numbered && k == 0 && v <= 400 && b.Class == wantClass(v)
	case 3:
		return numbered && k == 0 && v == 0 && b.Class == 0
	}
	return false
}

// raw is the fields of a head as they are written, so that a test can write what no block says.
type raw struct {
	tag, class, kind, key byte
	value                 uint16
	zeros                 [2]byte
	id, ver, epoch        uint64
	data                  string
}

// rawOf returns the fields of b's head.
func rawOf(b api.Block) raw {
	return raw{
		tag: 1, class: byte(b.Class), kind: byte(b.Kind), key: byte(len(b.Key)), value: uint16(len(b.Value)),
		id: b.ID, ver: b.Ver, epoch: b.Epoch, data: b.Key + b.Value,
	}
}

// lines returns the bytes of r in so many lines, with a checksum that fits. The library's encoding and checksum stand in for those of the project.
func (r raw) lines(span int) []byte {
	b := make([]byte, 64*span)
	b[0], b[1], b[2], b[3] = r.tag, r.class, r.kind, r.key
	binary.LittleEndian.PutUint16(b[4:], r.value)
	b[6], b[7] = r.zeros[0], r.zeros[1]
	binary.LittleEndian.PutUint64(b[8:], r.id)
	binary.LittleEndian.PutUint64(b[16:], r.ver)
	binary.LittleEndian.PutUint64(b[24:], r.epoch)
	at := 36
	for _, x := range []byte(r.data) {
		if at%64 == 0 {
			at++
		}
		b[at] = x
		at++
	}
	for line := 1; line < span; line++ {
		b[64*line] = 2
	}
	reseal(b)
	return b
}

// reseal writes the checksum that fits the other bytes of b.
func reseal(b []byte) {
	var sealed []byte
	for i, x := range b {
		if i < 32 || i >= 36 && i%64 != 0 {
			sealed = append(sealed, x)
		}
	}
	binary.LittleEndian.PutUint32(b[32:], crc32.ChecksumIEEE(sealed))
}

// wantLines returns the lines of a valid block.
func wantLines(b api.Block) []byte { return rawOf(b).lines(wantSpans[b.Class]) }

// text returns n bytes that run through all values from seed on, none of them zero where n is small.
func text(seed byte, n int) string {
	b := make([]byte, n)
	for i := range b {
		b[i] = seed + byte(i*7)
	}
	return string(b)
}

// payload returns the valid block of a kind with numbers of many bytes, a key and a value of these lengths.
func payload(kind int, key int, value int) api.Block {
	return api.Block{
		Class: wantClass(key + value), Kind: kind,
		ID: 0x0102030405060708, Ver: 0x1112131415161718, Epoch: 0x0a0b0c0d0e0f1011,
		Key: text(65, key), Value: text(3, value),
	}
}

// edgeLengths returns lengths of data at each cap and about it, as far as a value may reach.
func edgeLengths() []int {
	return []int{0, 1, 2, 27, 28, 29, 90, 91, 92, 216, 217, 218, 255, 256, 257, 399, 400}
}

// validBlocks returns valid blocks of each kind and each class, the edges among them.
func validBlocks() []api.Block {
	var all []api.Block
	for c := range 4 {
		all = append(all, api.Block{Class: c})
	}
	for _, v := range []uint64{1, 2, 255, 256, 1<<61 - 1, 1 << 61} {
		all = append(all,
			api.Block{Kind: 3, ID: v, Ver: 1, Epoch: 7},
			api.Block{Kind: 3, ID: 1, Ver: v, Epoch: 7},
			api.Block{Kind: 2, ID: 3, Ver: 2, Epoch: v},
			api.Block{Kind: 1, ID: v, Ver: v, Epoch: v, Key: "k"},
		)
	}
	for _, n := range edgeLengths() {
		all = append(all, payload(2, 0, n))
		for _, key := range []int{1, 2, 15, 16} {
			all = append(all, payload(1, key, n))
			if n >= key {
				all = append(all, payload(1, key, n-key))
			}
		}
	}
	for _, x := range []string{"\x00", "\x01", "\x02", "\xff"} {
		all = append(all,
			api.Block{Class: 3, Kind: 1, ID: 1, Ver: 1, Epoch: 1, Key: strings.Repeat(x, 16), Value: strings.Repeat(x, 400)},
			api.Block{Class: 1, Kind: 2, ID: 1, Ver: 1, Epoch: 1, Value: strings.Repeat(x, 60)},
			api.Block{Kind: 1, ID: 1, Ver: 1, Epoch: 1, Key: x, Value: x},
		)
	}
	return all
}

// farNumbers returns numbers that are no class and no kind: those beside them, those that are one in their low bits, and the ends.
func farNumbers() []int {
	all := []int{1 << 8, 1<<8 + 1, 1<<8 + 2, 1<<8 + 3, 1<<16 + 1, 1<<32 + 1, 1<<32 + 3, -1 << 8, -1<<8 + 1, -1 << 32, -1<<32 + 3, math.MaxInt, math.MaxInt - 1, math.MinInt, math.MinInt + 1, math.MinInt + 3}
	for n := range 300 {
		all = append(all, -1-n, 4+n)
	}
	return all
}
