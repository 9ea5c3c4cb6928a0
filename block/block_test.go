package block

import (
	"bytes"
	"hash/crc32"
	"math"
	"strings"
	"sync"
	"testing"

	"fusee/api"
)

// checkBlock holds May, Encode and Decode of b against the model.
func checkBlock(t *testing.T, b api.Block) {
	t.Helper()
	valid := wantValid(b)
	if May(b) != valid {
		t.Errorf("May(%#v) = %v", b, !valid)
	}
	lines, e := Encode(b)
	if !valid {
		if len(lines) != 0 || e != api.ErrForm {
			t.Errorf("Encode(%#v) = %x, %d", b, lines, e)
		}
		return
	}
	if e != api.OK || !bytes.Equal(lines, wantLines(b)) {
		t.Errorf("Encode(%#v) = %x, %d, want %x", b, lines, e, wantLines(b))
	}
	if got, ok := Decode(lines); got != b || !ok {
		t.Errorf("Decode(Encode(%#v)) = %#v, %v", b, got, ok)
	}
}

// mustBe holds b against an answer that is told by hand, so that the model is not taken on trust.
func mustBe(t *testing.T, what string, b api.Block, valid bool) {
	t.Helper()
	if wantValid(b) != valid || May(b) != valid {
		t.Errorf("%s: May(%#v) = %v, the model %v, want %v", what, b, May(b), wantValid(b), valid)
	}
	checkBlock(t, b)
}

func TestExamples(t *testing.T) {
	b := api.Block{Class: 0, Kind: api.KindMap, ID: 1, Ver: 1, Epoch: 1, Key: "a", Value: "b"}
	lines, e := Encode(b)
	if e != api.OK || len(lines) != 64 || !bytes.HasPrefix(lines, []byte{1, 0, 1, 1, 1, 0, 0, 0, 1}) {
		t.Errorf("Encode(%#v) = %x, %d", b, lines, e)
	}
	b.Value = strings.Repeat("b", 28)
	if lines, e := Encode(b); lines != nil || e != api.ErrForm {
		t.Errorf("Encode(%#v) = %x, %d", b, lines, e)
	}
	b.Class = 1
	if lines, e := Encode(b); len(lines) != 128 || e != api.OK {
		t.Errorf("Encode(%#v) = %x, %d", b, lines, e)
	}
	if c, kind, ok := Head(Draft(2)); c != 2 || kind != 0 || !ok {
		t.Errorf("Head(Draft(2)) = %d, %d, %v", c, kind, ok)
	}
	if c, kind, ok := Head(make([]byte, 64)); c != 0 || kind != 0 || ok {
		t.Errorf("Head(zeros) = %d, %d, %v", c, kind, ok)
	}
}

func TestP6_1_ValidBlocks(t *testing.T) {
	kinds, classes := [4]int{}, [4]int{}
	for _, b := range validBlocks() {
		mustBe(t, "valid", b, true)
		kinds[b.Kind]++
		if b.Kind == api.KindMap || b.Kind == api.KindQueue {
			classes[b.Class]++
		}
	}
	for i := range 4 {
		if kinds[i] == 0 || classes[i] == 0 {
			t.Errorf("%d blocks of kind %d, %d payloads of class %d", kinds[i], i, classes[i], i)
		}
	}
}

func TestP6_1_NoClass(t *testing.T) {
	for _, c := range farNumbers() {
		for _, b := range []api.Block{{}, {Kind: 3, ID: 1, Ver: 1, Epoch: 1}, {Kind: 2, ID: 1, Ver: 1, Epoch: 1}, payload(2, 0, 400), payload(1, 1, 0), payload(1, 16, 400)} {
			b.Class = c
			mustBe(t, "no class", b, false)
		}
	}
	// No class is what class.Need returns for too much data; it is no class of a block all the same.
	for _, n := range []int{470, 471, 1000} {
		mustBe(t, "too much data", api.Block{Class: -1, Kind: 2, ID: 1, Ver: 1, Epoch: 1, Value: text(1, n)}, false)
		mustBe(t, "too much data", api.Block{Class: -1, Kind: 1, ID: 1, Ver: 1, Epoch: 1, Key: "k", Value: text(1, n)}, false)
	}
}

func TestP6_1_NoKind(t *testing.T) {
	for _, kind := range farNumbers() {
		for _, b := range []api.Block{{}, {ID: 1, Ver: 1, Epoch: 1}, payload(2, 0, 100), payload(1, 3, 30)} {
			b.Kind = kind
			mustBe(t, "no kind", b, false)
		}
	}
}

func TestP6_1_Numbers(t *testing.T) {
	const most = 1 << 61
	if most != api.MaxNumber {
		t.Fatalf("MaxNumber is %d", api.MaxNumber)
	}
	for v, valid := range map[uint64]bool{0: false, 1: true, 2: true, most - 1: true, most: true, most + 1: false, 1<<61 + 1<<60: false, 1 << 62: false, 1 << 63: false, 1<<63 + 1: false, math.MaxUint64: false} {
		for _, b := range []api.Block{payload(1, 1, 0), payload(1, 16, 400), payload(2, 0, 0), payload(2, 0, 300), {Kind: 3, ID: 5, Ver: 6, Epoch: 7}} {
			id, ver, epoch, all := b, b, b, b
			id.ID, ver.Ver, epoch.Epoch = v, v, v
			all.ID, all.Ver, all.Epoch = v, v, v
			mustBe(t, "ID", id, valid)
			mustBe(t, "Ver", ver, valid)
			mustBe(t, "Epoch", epoch, valid)
			mustBe(t, "all", all, valid)
		}
	}
}

func TestP6_1_Lengths(t *testing.T) {
	for key, valid := range map[int]bool{0: false, 1: true, 2: true, 15: true, 16: true, 17: false, 18: false, 28: false, 256: false, 257: false, 272: false, 469: false} {
		for _, value := range []int{0, 5, 300} {
			mustBe(t, "key", payload(1, key, value), valid)
		}
	}
	for value, valid := range map[int]bool{0: true, 1: true, 399: true, 400: true, 401: false, 402: false, 453: false, 469: false, 470: false, 1 << 16: false, 1<<16 + 1: false} {
		mustBe(t, "value of a map block", payload(1, 1, value), valid)
		mustBe(t, "value of a map block", payload(1, 16, value), valid)
		mustBe(t, "value of a queue block", payload(2, 0, value), valid)
	}
	mustBe(t, "a long key for want of a value", payload(1, 400, 0), false)
	mustBe(t, "both too long", payload(1, 17, 401), false)
}

func TestP6_1_ClassOfTheData(t *testing.T) {
	for n, need := range map[int]int{0: 0, 1: 0, 27: 0, 28: 0, 29: 1, 90: 1, 91: 1, 92: 2, 216: 2, 217: 2, 218: 3, 399: 3, 400: 3, 401: 3, 415: 3, 416: 3} {
		for c := -1; c <= 4; c++ {
			for key := 1; key <= 16; key++ {
				if n < key || n-key > 400 {
					continue
				}
				b := payload(1, key, n-key)
				b.Class = c
				mustBe(t, "map", b, c == need)
			}
			if n <= 400 {
				b := payload(2, 0, n)
				b.Class = c
				mustBe(t, "queue", b, c == need)
			}
		}
	}
}

func TestP6_1_Drafts(t *testing.T) {
	for c := -1; c <= 4; c++ {
		mustBe(t, "draft", api.Block{Class: c}, c >= 0 && c <= 3)
		for _, v := range []uint64{1, 2, 1 << 61, 1<<61 + 1, math.MaxUint64} {
			mustBe(t, "draft with an ID", api.Block{Class: c, ID: v}, false)
			mustBe(t, "draft with a Ver", api.Block{Class: c, Ver: v}, false)
			mustBe(t, "draft with an Epoch", api.Block{Class: c, Epoch: v}, false)
			mustBe(t, "draft with all numbers", api.Block{Class: c, ID: v, Ver: v, Epoch: v}, false)
		}
		for _, s := range []string{"\x00", "a", text(1, 16), text(1, 400)} {
			mustBe(t, "draft with a key", api.Block{Class: c, Key: s}, false)
			mustBe(t, "draft with a value", api.Block{Class: c, Value: s}, false)
		}
	}
}

func TestP6_1_QueueWithKey(t *testing.T) {
	for _, n := range edgeLengths() {
		for _, key := range []string{"\x00", "k", text(9, 16), text(9, 17)} {
			for c := range 4 {
				mustBe(t, "queue with a key", api.Block{Class: c, Kind: 2, ID: 1, Ver: 1, Epoch: 1, Key: key, Value: text(1, n)}, false)
			}
		}
	}
}

func TestP6_1_Antis(t *testing.T) {
	for c := -1; c <= 4; c++ {
		mustBe(t, "anti", api.Block{Class: c, Kind: 3, ID: 4, Ver: 5, Epoch: 6}, c == 0)
		for _, n := range []int{1, 16, 28, 29, 91, 92, 217, 218, 400} {
			mustBe(t, "anti with a key", api.Block{Class: c, Kind: 3, ID: 4, Ver: 5, Epoch: 6, Key: text(1, n)}, false)
			mustBe(t, "anti with a value", api.Block{Class: c, Kind: 3, ID: 4, Ver: 5, Epoch: 6, Value: text(1, n)}, false)
		}
		mustBe(t, "anti with a zero byte", api.Block{Class: c, Kind: 3, ID: 4, Ver: 5, Epoch: 6, Value: "\x00"}, false)
	}
}

// Every length of a key and a value, with each kind and each class.
func TestP6_1_EveryLength(t *testing.T) {
	keys, values := text(65, 18), text(3, 403)
	for kind := -1; kind <= 4; kind++ {
		for c := -1; c <= 4; c++ {
			for key := range 19 {
				for value := range 404 {
					b := api.Block{Class: c, Kind: kind, ID: 9, Ver: 8, Epoch: 7, Key: keys[:key], Value: values[:value]}
					if May(b) != wantValid(b) {
						t.Fatalf("kind %d, class %d, lengths %d and %d: %v", kind, c, key, value, May(b))
					}
					if (value+key)%13 == 0 {
						checkBlock(t, b)
					}
				}
			}
		}
	}
}

// The lines byte by byte, so that the test's own encoding is not taken on trust.
func TestP6_1_BytesAsTheyAre(t *testing.T) {
	b := api.Block{Class: 1, Kind: 1, ID: 0x0102030405060708, Ver: 0x1112131415161718, Epoch: 0x0a0b0c0d0e0f1011, Key: "key", Value: "0123456789abcdefghijklmnopqrstuvwxyz"}
	fields := []byte{
		1, 1, 1, 3, 36, 0, 0, 0,
		8, 7, 6, 5, 4, 3, 2, 1,
		0x18, 0x17, 0x16, 0x15, 0x14, 0x13, 0x12, 0x11,
		0x11, 0x10, 0x0f, 0x0e, 0x0d, 0x0c, 0x0b, 0x0a,
	}
	padded := "key0123456789abcdefghijklmnopqrstuvwxyz" + strings.Repeat("\x00", 91-39)
	c := crc32.ChecksumIEEE([]byte(string(fields) + padded))
	want := append(fields, byte(c), byte(c>>8), byte(c>>16), byte(c>>24))
	want = append(want, "key0123456789abcdefghijklmno"...)
	want = append(want, 2)
	want = append(want, "pqrstuvwxyz"...)
	want = append(want, make([]byte, 63-11)...)
	if got, e := Encode(b); e != api.OK || !bytes.Equal(got, want) || len(got) != 128 {
		t.Errorf("Encode(%#v) = %x, %d, want %x", b, got, e, want)
	}
	// 300 is 44 + 256: the length of a value takes both its bytes.
	if got, _ := Encode(payload(2, 0, 300)); len(got) != 512 || !bytes.HasPrefix(got, []byte{1, 3, 2, 0, 44, 1, 0, 0}) {
		t.Errorf("a value of 300 bytes: %x", got)
	}
	if got, _ := Encode(payload(1, 16, 400)); !bytes.HasPrefix(got, []byte{1, 3, 1, 16, 144, 1, 0, 0}) {
		t.Errorf("a value of 400 bytes: %x", got)
	}
	if got, _ := Encode(api.Block{Kind: 3, ID: 1, Ver: 2, Epoch: 3}); len(got) != 64 || !bytes.HasPrefix(got, []byte{1, 0, 3, 0, 0, 0, 0, 0, 1, 0, 0, 0, 0, 0, 0, 0, 2, 0, 0, 0, 0, 0, 0, 0, 3, 0}) {
		t.Errorf("an anti: %x", got)
	}
}

// What the chapter says of the lines, asked of each of them without an encoding at hand.
func TestP6_1_WhatTheLinesHold(t *testing.T) {
	for _, b := range validBlocks() {
		lines, _ := Encode(b)
		if len(lines) != 64*wantSpans[b.Class] {
			t.Fatalf("%#v has %d bytes", b, len(lines))
		}
		held := bytes.Clone(lines[36:64])
		for at := 64; at < len(lines); at += 64 {
			if lines[at] != api.TagData {
				t.Errorf("%#v: the tag at %d is %d", b, at, lines[at])
			}
			held = append(held, lines[at+1:at+64]...)
		}
		n := len(b.Key) + len(b.Value)
		if string(held[:n]) != b.Key+b.Value || len(bytes.Trim(held[n:], "\x00")) != 0 || len(held) != wantCaps[b.Class] {
			t.Errorf("%#v holds %x", b, held)
		}
		if got := crc32.Update(crc32.ChecksumIEEE(lines[:32]), crc32.IEEETable, held); got != uint32(lines[32])|uint32(lines[33])<<8|uint32(lines[34])<<16|uint32(lines[35])<<24 {
			t.Errorf("%#v: the checksum is %x, want %08x", b, lines[32:36], got)
		}
	}
}

func TestP6_2_Draft(t *testing.T) {
	for c := range 4 {
		got := Draft(c)
		if want := wantLines(api.Block{Class: c})[:64]; !bytes.Equal(got, want) {
			t.Errorf("Draft(%d) = %x, want %x", c, got, want)
		}
		lines, _ := Encode(api.Block{Class: c, Kind: api.KindDraft})
		if len(got) != 64 || !bytes.Equal(got, lines[:64]) {
			t.Errorf("Draft(%d) = %x, its block begins with %x", c, got, lines[:64])
		}
		if gotClass, kind, ok := Head(got); gotClass != c || kind != api.KindDraft || !ok {
			t.Errorf("Head(Draft(%d)) = %d, %d, %v", c, gotClass, kind, ok)
		}
		if b, ok := Decode(got); ok != (c == 0) || b != (api.Block{}) {
			t.Errorf("Decode(Draft(%d)) = %#v, %v", c, b, ok)
		}
	}
	for _, c := range farNumbers() {
		if got := Draft(c); len(got) != 0 {
			t.Errorf("Draft(%d) = %x", c, got)
		}
	}
}

func TestP6_2_HeadOfEveryLength(t *testing.T) {
	for length := range 200 {
		line := bytes.Repeat([]byte{1}, length)
		c, kind, ok := Head(line)
		if length == 64 && (c != 1 || kind != 1 || !ok) || length != 64 && (c != 0 || kind != 0 || ok) {
			t.Errorf("Head of %d bytes = %d, %d, %v", length, c, kind, ok)
		}
	}
	if c, kind, ok := Head(nil); c != 0 || kind != 0 || ok {
		t.Errorf("Head(nil) = %d, %d, %v", c, kind, ok)
	}
	// The capacity behind the end is not part of the line.
	draft := Draft(3)
	if c, kind, ok := Head(draft[:63]); c != 0 || kind != 0 || ok {
		t.Errorf("Head of 63 bytes with capacity = %d, %d, %v", c, kind, ok)
	}
	lines, _ := Encode(payload(2, 0, 400))
	if c, kind, ok := Head(lines); c != 0 || kind != 0 || ok {
		t.Errorf("Head of a whole block = %d, %d, %v", c, kind, ok)
	}
	if c, kind, ok := Head(lines[:64]); c != 3 || kind != 2 || !ok {
		t.Errorf("Head of a block's first line = %d, %d, %v", c, kind, ok)
	}
}

func TestP6_2_HeadOfEveryClassAndKind(t *testing.T) {
	line := make([]byte, 64)
	for c := range 256 {
		for kind := range 256 {
			for tag := range 6 {
				line[0], line[1], line[2] = byte(tag), byte(c), byte(kind)
				gotClass, gotKind, ok := Head(line)
				if valid := tag == 1 && c <= 3 && kind <= 3; ok != valid || valid && (gotClass != c || gotKind != kind) || !valid && (gotClass != 0 || gotKind != 0) {
					t.Fatalf("Head(%x) = %d, %d, %v", line[:3], gotClass, gotKind, ok)
				}
			}
		}
	}
	for tag := range 256 {
		line[0], line[1], line[2] = byte(tag), 2, 3
		c, kind, ok := Head(line)
		if valid := tag == 1; ok != valid || valid && (c != 2 || kind != 3) || !valid && (c != 0 || kind != 0) {
			t.Errorf("Head(%x) = %d, %d, %v", line[:3], c, kind, ok)
		}
	}
}

func TestP6_2_HeadExaminesNoOtherByte(t *testing.T) {
	for _, fill := range []byte{0, 1, 2, 4, 0x7f, 0x80, 0xff} {
		line := bytes.Repeat([]byte{fill}, 64)
		for c := range 4 {
			for kind := range 4 {
				line[0], line[1], line[2] = 1, byte(c), byte(kind)
				if gotClass, gotKind, ok := Head(line); gotClass != c || gotKind != kind || !ok {
					t.Errorf("Head(%x) = %d, %d, %v", line, gotClass, gotKind, ok)
				}
			}
		}
	}
	line := Draft(1)
	for at := 3; at < 64; at++ {
		for x := range 256 {
			before := line[at]
			line[at] = byte(x)
			if c, kind, ok := Head(line); c != 1 || kind != 0 || !ok {
				t.Errorf("Head(%x) = %d, %d, %v", line, c, kind, ok)
			}
			line[at] = before
		}
	}
}

// Data that are heads themselves, laid so that one begins at each place of a line.
func TestP6_3_NoDataLineLooksLikeAHead(t *testing.T) {
	var like []string
	for c := range 4 {
		like = append(like, strings.Repeat(string(Draft(c)), 8))
		for kind := range 4 {
			like = append(like, strings.Repeat(string([]byte{1, byte(c), byte(kind)}), 160))
		}
	}
	for _, s := range append(like, strings.Repeat("\x01", 480)) {
		for shift := range 64 {
			for _, b := range []api.Block{
				{Class: 3, Kind: 2, ID: 1, Ver: 1, Epoch: 1, Value: s[shift : shift+400]},
				{Class: 3, Kind: 1, ID: 1, Ver: 1, Epoch: 1, Key: s[shift : shift+16], Value: s[shift+16 : shift+416]},
				{Class: 1, Kind: 2, ID: 1, Ver: 1, Epoch: 1, Value: s[shift : shift+91]},
			} {
				lines, e := Encode(b)
				if e != api.OK {
					t.Fatalf("Encode(%#v): %d", b, e)
				}
				for at := 64; at < len(lines); at += 64 {
					if c, kind, ok := Head(lines[at : at+64]); c != 0 || kind != 0 || ok {
						t.Errorf("a data line %x is a head: %d, %d", lines[at:at+64], c, kind)
					}
				}
			}
		}
	}
}

func TestMemoryIsNotShared(t *testing.T) {
	for _, b := range validBlocks() {
		first, _ := Encode(b)
		again, _ := Encode(b)
		for i := range first {
			first[i] ^= 0xee
		}
		_ = append(first[:3], 0xdd, 0xdd, 0xdd)
		_ = append(again, bytes.Repeat([]byte{0xcc}, 100)...)
		later, _ := Encode(b)
		if want := wantLines(b); !bytes.Equal(again, want) || !bytes.Equal(later, want) {
			t.Errorf("Encode(%#v) became %x, %x", b, again, later)
		}
	}
	for c := range 4 {
		first, again := Draft(c), Draft(c)
		for i := range first {
			first[i] ^= 0xee
		}
		_ = append(first[:3], 0xdd)
		_ = append(again, 0xcc, 0xcc, 0xcc)
		if want := wantLines(api.Block{Class: c})[:64]; !bytes.Equal(again, want) || !bytes.Equal(Draft(c), want) {
			t.Errorf("Draft(%d) became %x, %x", c, again, Draft(c))
		}
		whole, _ := Encode(api.Block{Class: c})
		if !bytes.Equal(whole, wantLines(api.Block{Class: c})) {
			t.Errorf("the draft of class %d became %x", c, whole)
		}
	}
	line := append(Draft(2), 5, 6, 7)
	before := bytes.Clone(line)
	Head(line[:64])
	Head(line)
	if !bytes.Equal(line, before) {
		t.Errorf("Head's argument became %x", line)
	}
}

func TestManyGoroutines(t *testing.T) {
	all := validBlocks()
	var wait sync.WaitGroup
	for range 8 {
		wait.Go(func() {
			for _, b := range all {
				lines, e := Encode(b)
				got, ok := Decode(lines)
				c, kind, isHead := Head(lines[:64])
				if e != api.OK || got != b || !ok || c != b.Class || kind != b.Kind || !isHead || len(Draft(b.Class)) != 64 {
					t.Errorf("%#v among goroutines: %#v, %v", b, got, ok)
				}
			}
		})
	}
	wait.Wait()
}
