package block

import (
	"bytes"
	"encoding/binary"
	"strings"
	"testing"

	"fusee/api"
)

// noBlock fails the test if b is decoded.
func noBlock(t *testing.T, what string, b []byte) {
	t.Helper()
	if got, ok := Decode(b); ok || got != (api.Block{}) {
		t.Errorf("%s: Decode(%x) = %#v, %v", what, b, got, ok)
	}
}

// someBlocks returns a valid block of each kind and each class.
func someBlocks() []api.Block {
	return []api.Block{
		{}, {Class: 1}, {Class: 2}, {Class: 3},
		payload(1, 3, 10), payload(1, 16, 12), payload(1, 1, 60), payload(1, 5, 150), payload(1, 16, 400),
		payload(2, 0, 0), payload(2, 0, 28), payload(2, 0, 91), payload(2, 0, 92), payload(2, 0, 218),
		{Kind: 3, ID: 1, Ver: 2, Epoch: 3},
		{Kind: 3, ID: 1 << 61, Ver: 1 << 61, Epoch: 1 << 61},
	}
}

func TestP6_1_DecodeOfTheModelsLines(t *testing.T) {
	for _, b := range validBlocks() {
		if got, ok := Decode(wantLines(b)); got != b || !ok {
			t.Errorf("Decode of the lines of %#v = %#v, %v", b, got, ok)
		}
	}
}

func TestP6_1_DecodeOfOtherLengths(t *testing.T) {
	noBlock(t, "nothing", nil)
	noBlock(t, "nothing", []byte{})
	for length := range 700 {
		for _, fill := range []byte{0, 1, 2, 0xff} {
			noBlock(t, "one byte over and over", bytes.Repeat([]byte{fill}, length))
		}
	}
	for _, b := range someBlocks() {
		lines := wantLines(b)
		long := append(bytes.Clone(lines), make([]byte, 600)...)
		for length := range long {
			if length != len(lines) {
				noBlock(t, "another length", long[:length])
			}
		}
		for _, more := range []byte{0, 1, 2, 0xff} {
			noBlock(t, "one byte more", append(bytes.Clone(lines), more))
			noBlock(t, "one byte ahead", append([]byte{more}, lines...))
		}
		noBlock(t, "one byte less ahead", lines[1:])
		noBlock(t, "twice", append(bytes.Clone(lines), lines...))
		noBlock(t, "with a draft behind it", append(bytes.Clone(lines), Draft(0)...))
		// The capacity behind the end is not part of what is asked about.
		if got, ok := Decode(long[:len(lines)]); got != b || !ok {
			t.Errorf("with capacity behind: %#v, %v, want %#v", got, ok, b)
		}
		noBlock(t, "short, with capacity", lines[:len(lines)-1])
	}
}

// One byte changed at each place: every other value of it in the first line and at the tags, some of them in the data.
func TestP6_3_OneByteChanged(t *testing.T) {
	for _, b := range someBlocks() {
		lines := wantLines(b)
		for at := range lines {
			step := 1
			if at >= 64 && at%64 != 0 {
				step = 37
			}
			for turn := 1; turn < 256; turn += step {
				lines[at] ^= byte(turn)
				noBlock(t, "one byte changed", lines)
				lines[at] ^= byte(turn)
			}
		}
	}
}

// The length is made to fit the class that the changed byte tells.
func TestP6_3_AnotherClassInTheHead(t *testing.T) {
	for _, b := range someBlocks() {
		for c := range 4 {
			if c == b.Class {
				continue
			}
			lines := wantLines(b)
			lines[1] = byte(c)
			for len(lines) < 64*wantSpans[c] {
				lines = append(lines, 2)
				lines = append(lines, make([]byte, 63)...)
			}
			noBlock(t, "another class", lines[:64*wantSpans[c]])
		}
	}
}

// The checksum fits in all of these, but the block that the lines tell of is not valid.
func TestP6_1_SealedButNotValid(t *testing.T) {
	for what, r := range map[string]raw{
		"tag 0":                      {tag: 0},
		"tag 2":                      {tag: 2},
		"tag 255":                    {tag: 255},
		"class 4":                    {tag: 1, class: 4},
		"class 255":                  {tag: 1, class: 255},
		"kind 4":                     {tag: 1, kind: 4, id: 1, ver: 1, epoch: 1},
		"kind 255":                   {tag: 1, kind: 255, id: 1, ver: 1, epoch: 1},
		"draft with an ID":           {tag: 1, id: 1},
		"draft with a Ver":           {tag: 1, ver: 1},
		"draft with an Epoch":        {tag: 1, epoch: 1},
		"draft with a key":           {tag: 1, key: 1, data: "k"},
		"draft with a value":         {tag: 1, value: 1, data: "v"},
		"draft with zeros as value":  {tag: 1, value: 5},
		"map without a key":          {tag: 1, kind: 1, id: 1, ver: 1, epoch: 1, value: 1, data: "v"},
		"map without an ID":          {tag: 1, kind: 1, ver: 1, epoch: 1, key: 1, data: "k"},
		"map without a Ver":          {tag: 1, kind: 1, id: 1, epoch: 1, key: 1, data: "k"},
		"map without an Epoch":       {tag: 1, kind: 1, id: 1, ver: 1, key: 1, data: "k"},
		"map with a great ID":        {tag: 1, kind: 1, id: 1<<61 + 1, ver: 1, epoch: 1, key: 1, data: "k"},
		"map with a great Ver":       {tag: 1, kind: 1, id: 1, ver: 1<<61 + 1, epoch: 1, key: 1, data: "k"},
		"map with a great Epoch":     {tag: 1, kind: 1, id: 1, ver: 1, epoch: 1<<64 - 1, key: 1, data: "k"},
		"map with a long key":        {tag: 1, kind: 1, id: 1, ver: 1, epoch: 1, key: 17, data: "0123456789abcdefg"},
		"queue with a key":           {tag: 1, kind: 2, id: 1, ver: 1, epoch: 1, key: 1, value: 1, data: "kv"},
		"queue without numbers":      {tag: 1, kind: 2, value: 1, data: "v"},
		"queue with a great ID":      {tag: 1, kind: 2, id: 1 << 62, ver: 1, epoch: 1, value: 1, data: "v"},
		"anti with a key":            {tag: 1, kind: 3, id: 1, ver: 1, epoch: 1, key: 1, data: "k"},
		"anti with a value":          {tag: 1, kind: 3, id: 1, ver: 1, epoch: 1, value: 1, data: "v"},
		"anti with zeros as value":   {tag: 1, kind: 3, id: 1, ver: 1, epoch: 1, value: 1},
		"anti of class 1":            {tag: 1, class: 1, kind: 3, id: 1, ver: 1, epoch: 1},
		"anti of class 3":            {tag: 1, class: 3, kind: 3, id: 1, ver: 1, epoch: 1},
		"anti without numbers":       {tag: 1, kind: 3},
		"map of too great a class":   {tag: 1, class: 1, kind: 1, id: 1, ver: 1, epoch: 1, key: 1, value: 1, data: "kv"},
		"queue of too great a class": {tag: 1, class: 3, kind: 2, id: 1, ver: 1, epoch: 1, value: 217, data: strings.Repeat("v", 217)},
		"queue with a long value":    {tag: 1, class: 3, kind: 2, id: 1, ver: 1, epoch: 1, value: 401, data: strings.Repeat("v", 401)},
		"map with a long value":      {tag: 1, class: 3, kind: 1, id: 1, ver: 1, epoch: 1, key: 1, value: 401, data: strings.Repeat("v", 402)},
	} {
		span := 1
		if r.class < 4 {
			span = wantSpans[r.class]
		}
		noBlock(t, what, r.lines(span))
	}
}

// Every pair of lengths that a head may tell, with a checksum that fits: only those that fit the class and fill the data are a block.
func TestP6_1_SealedLengths(t *testing.T) {
	for c := range 4 {
		lines := raw{tag: 1, class: byte(c), kind: 1, id: 1, ver: 1, epoch: 1}.lines(wantSpans[c])
		for _, key := range []int{0, 1, 2, 16, 17, 27, 28, 29, 91, 92, 217, 218, 254, 255} {
			for _, value := range append(edgeLengths(), 401, 412, 441, 442, 468, 469, 470, 512, 1<<15, 1<<16-256, 1<<16-1) {
				lines[3] = byte(key)
				binary.LittleEndian.PutUint16(lines[4:], uint16(value))
				reseal(lines)
				zeros := strings.Repeat("\x00", key+value)
				b := api.Block{Class: c, Kind: 1, ID: 1, Ver: 1, Epoch: 1, Key: zeros[:key], Value: zeros[key:]}
				if !wantValid(b) {
					noBlock(t, "lengths", lines)
				} else if got, ok := Decode(lines); got != b || !ok {
					t.Errorf("lengths %d and %d of class %d: %#v, %v", key, value, c, got, ok)
				}
			}
		}
	}
}

func TestP6_1_SealedButTheTwoZeros(t *testing.T) {
	for _, b := range someBlocks() {
		for x := 1; x < 256; x++ {
			r := rawOf(b)
			r.zeros = [2]byte{byte(x), 0}
			noBlock(t, "the first of the two zeros", r.lines(wantSpans[b.Class]))
			r.zeros = [2]byte{0, byte(x)}
			noBlock(t, "the second of the two zeros", r.lines(wantSpans[b.Class]))
		}
	}
}

func TestP6_1_SealedButThePadding(t *testing.T) {
	for _, b := range someBlocks() {
		n := len(b.Key) + len(b.Value)
		for at := n; at < wantCaps[b.Class]; at++ {
			for _, x := range []byte{1, 0x80, 0xff} {
				r := rawOf(b)
				r.data += strings.Repeat("\x00", at-n) + string([]byte{x})
				noBlock(t, "a byte of the padding", r.lines(wantSpans[b.Class]))
			}
		}
	}
}

func TestP6_1_SealedButATag(t *testing.T) {
	for _, b := range someBlocks() {
		lines := wantLines(b)
		for at := 64; at < len(lines); at += 64 {
			for tag := range 256 {
				lines[at] = byte(tag)
				// The checksum leaves the tags out, so that it fits here as it was.
				if tag != api.TagData {
					noBlock(t, "a tag", lines)
				}
			}
			lines[at] = api.TagData
		}
	}
}

func TestP6_1_AnotherChecksum(t *testing.T) {
	for _, b := range someBlocks() {
		for _, c := range []uint32{0, 1, 1<<32 - 1} {
			lines := wantLines(b)
			binary.LittleEndian.PutUint32(lines[32:], c)
			noBlock(t, "another checksum", lines)
		}
		// The checksum of a shorter stretch than the chapter says.
		lines := wantLines(b)
		first := bytes.Clone(lines[:64])
		reseal(first)
		copy(lines, first)
		if b.Class > 0 {
			noBlock(t, "the checksum of the first line alone", lines)
		}
	}
}

// A head whose further lines did not all reach the persistent copy.
func TestP6_3_OldLinesBehindAHead(t *testing.T) {
	for _, b := range []api.Block{payload(1, 5, 80), payload(1, 5, 150), payload(1, 16, 400), payload(2, 0, 400)} {
		other := b
		other.Value = text(101, len(b.Value))
		old, fresh := wantLines(other), wantLines(b)
		for line := 1; line < wantSpans[b.Class]; line++ {
			mixed := bytes.Clone(fresh)
			copy(mixed[64*line:64*line+64], old[64*line:])
			if !bytes.Equal(mixed, fresh) {
				noBlock(t, "an old line", mixed)
			}
			if len(bytes.Trim(fresh[64*line+1:64*line+64], "\x00")) > 0 {
				copy(mixed, fresh)
				copy(mixed[64*line:64*line+64], make([]byte, 64))
				noBlock(t, "a line of zeros", mixed)
			}
		}
	}
}

// Whatever is decoded encodes to the same bytes, and whatever encodes is decoded: bytes with a checksum that fits, taken at random from a rule.
func TestP6_3_ThereAndBack(t *testing.T) {
	seed := uint64(1)
	next := func(n int) int {
		seed = seed*6364136223846793005 + 1442695040888963407
		return int(seed>>33) % n
	}
	decoded := 0
	for range 20000 {
		c := next(4)
		r := raw{tag: 1, class: byte(c), kind: byte(next(5)), key: byte(next(18)), value: uint16(next(wantCaps[c] + 2))}
		if next(6) > 0 {
			r.id, r.ver, r.epoch = uint64(1+next(9)), uint64(1)<<next(62), uint64(1)<<next(62)
		}
		r.data = text(byte(next(256)), min(int(r.key)+int(r.value), wantCaps[c]))
		lines := r.lines(wantSpans[c])
		b, ok := Decode(lines)
		if !ok {
			if b != (api.Block{}) {
				t.Fatalf("Decode(%x) = %#v, %v", lines, b, ok)
			}
			continue
		}
		decoded++
		again, e := Encode(b)
		if e != api.OK || !bytes.Equal(again, lines) || !wantValid(b) {
			t.Fatalf("Decode(%x) = %#v, which encodes to %x, %d", lines, b, again, e)
		}
	}
	if decoded < 1000 {
		t.Errorf("only %d blocks were decoded", decoded)
	}
}

func TestDecodeLeavesItsArgument(t *testing.T) {
	for _, b := range someBlocks() {
		whole := append(wantLines(b), 0xaa, 0xbb, 0xcc)
		before := bytes.Clone(whole)
		lines := whole[:len(whole)-3]
		got, ok := Decode(lines)
		Decode(whole)
		Decode(whole[:64])
		if !bytes.Equal(whole, before) {
			t.Errorf("Decode's argument became %x", whole)
		}
		for i := range whole {
			whole[i] ^= 0xee
		}
		if got != b || !ok {
			t.Errorf("what was decoded became %#v, %v, want %#v", got, ok, b)
		}
	}
}
