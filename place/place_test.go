package place

import (
	"fmt"
	"hash/crc32"
	"slices"
	"strings"
	"sync"
	"testing"
)

// literal is chapter 1's checksum, word for word, in wide numbers.
func literal(key string) uint64 {
	c := uint64(1)<<32 - 1
	for i := 0; i < len(key); i++ {
		c ^= uint64(key[i])
		for j := 0; j < 8; j++ {
			if c%2 == 0 {
				c = c / 2
			} else {
				c = (c / 2) ^ 0xedb88320
			}
		}
	}
	return c ^ (uint64(1)<<32 - 1)
}

// bits returns the 32 bits of a checksum, the highest first.
func bits(c uint64) [32]int {
	var all [32]int
	for i := 31; i >= 0; i-- {
		all[i] = int(c % 2)
		c /= 2
	}
	return all
}

// bucketOf is what the chapter says of the bucket of a key with this checksum.
func bucketOf(c uint64) int { return int(c % 8) }

// levelOf is what the chapter says of the level of a key with this checksum: the 1 bits are counted one by one, from the highest.
func levelOf(c uint64) int {
	level := 1
	for _, bit := range bits(c) {
		if bit == 0 {
			break
		}
		level++
	}
	if level > 4 {
		level = 4
	}
	return level
}

// short names a key in a message.
func short(key string) string {
	if len(key) > 40 {
		return fmt.Sprintf("%q... of %d bytes", key[:40], len(key))
	}
	return fmt.Sprintf("%q", key)
}

// at fails the test if the key's place is not this one.
func at(t *testing.T, key string, bucket, level int) {
	t.Helper()
	if got := Bucket(key); got != bucket {
		t.Errorf("Bucket(%s) = %d, want %d", short(key), got, bucket)
	}
	if got := Level(key); got != level {
		t.Errorf("Level(%s) = %d, want %d", short(key), got, level)
	}
}

// asModel fails the test if the key's place is not as the model says.
func asModel(t *testing.T, key string) {
	t.Helper()
	c := literal(key)
	at(t, key, bucketOf(c), levelOf(c))
}

// withSum returns start followed by the four bytes that give the whole the checksum c.
func withSum(t *testing.T, start string, c uint32) string {
	t.Helper()
	// Each of the 32 steps for four bytes is undone: the highest bit is 1 only behind an odd number.
	r := ^c
	for range 32 {
		if r>>31 == 1 {
			r = (r^0xedb88320)<<1 | 1
		} else {
			r <<= 1
		}
	}
	r ^= ^crc32.ChecksumIEEE([]byte(start))
	key := start + string([]byte{byte(r), byte(r >> 8), byte(r >> 16), byte(r >> 24)})
	if got := literal(key); got != uint64(c) {
		t.Fatalf("the checksum of %s is %08x, and was to be %08x", short(key), got, c)
	}
	return key
}

// starts are what the keys begin with whose checksums are chosen.
func starts() []string {
	return []string{"", "a", "key", "\x00", "\xff\xfe", "a key of a length that no block's head could hold", strings.Repeat("long ", 700)}
}

// keys returns keys of many lengths, of text and of any bytes.
func keys() []string {
	all := []string{"", "a", "b", "k", "key", "123456789", "a b", "über", "日本", "\xc3\x28 not UTF-8 \x80", "\xff", "\xff\xff\xff\xff", "\x00", "\x00\x00", "\x00a", "a\x00", "a\x00b"}
	d := dice(3)
	for n := 1; n <= 300; n += 1 + n/20 {
		all = append(all, d.key(n))
	}
	return all
}

// dice are numbers that look random and are the same in every run.
type dice uint32

func (d *dice) next() byte {
	*d = *d*1664525 + 1013904223
	return byte(*d >> 24)
}

// key returns a key of n bytes.
func (d *dice) key(n int) string {
	b := make([]byte, n)
	for i := range b {
		b[i] = d.next()
	}
	return string(b)
}

func TestExamples(t *testing.T) {
	at(t, "123456789", 6, 3)
	at(t, "", 0, 1)
}

// Checksums as they are known of these keys, and the places that follow from them, written out.
func TestP11_1_KnownKeys(t *testing.T) {
	for _, x := range []struct {
		key           string
		sum           uint64
		bucket, level int
	}{
		{"", 0x00000000, 0, 1},
		{"a", 0xe8b7be43, 3, 4},
		{"abc", 0x352441c2, 2, 1},
		{"message digest", 0x20159d7f, 7, 1},
		{"abcdefghijklmnopqrstuvwxyz", 0x4c2750bd, 5, 1},
		{"The quick brown fox jumps over the lazy dog", 0x414fa339, 1, 1},
		{"123456789", 0xcbf43926, 6, 3},
		{"\x00", 0xd202ef8d, 5, 3},
		{"\xff", 0xff000000, 0, 4},
		{"\x00\x00\x00\x00", 0x2144df1c, 4, 1},
		{"\xff\xff\xff\xff", 0xffffffff, 7, 4},
	} {
		if c := literal(x.key); c != x.sum {
			t.Fatalf("the checksum of %q is %08x, want %08x", x.key, c, x.sum)
		}
		at(t, x.key, x.bucket, x.level)
	}
}

// Bucket: what counts is the low bits of the checksum, whatever stands above them.
func TestP11_1_BucketOfLowBits(t *testing.T) {
	for _, start := range starts() {
		for low := range uint32(8) {
			for _, above := range []uint32{0, 0x8, 0x10, 0x7ffffff8, 0x80000000, 0xa5a5a5a0, 0xfffffff0, 0xfffffff8} {
				key := withSum(t, start, above|low)
				if got := Bucket(key); got != int(low) {
					t.Errorf("Bucket of a key with the checksum %08x = %d, want %d", above|low, got, low)
				}
			}
		}
	}
}

// Bucket: low bits that are all noughts or all ones, ever more of them.
func TestP11_1_BucketOfRuns(t *testing.T) {
	for n := 3; n <= 32; n++ {
		ones := uint32(1<<n - 1)
		for _, start := range starts() {
			if key := withSum(t, start, ones); Bucket(key) != 7 {
				t.Errorf("Bucket of a key with the checksum %08x = %d, want 7", ones, Bucket(key))
			}
			if key := withSum(t, start, ^ones); Bucket(key) != 0 {
				t.Errorf("Bucket of a key with the checksum %08x = %d, want 0", ^ones, Bucket(key))
			}
		}
	}
}

// Level: checksums that begin with so many ones and then a nought, with every bit, no bit and some of the bits behind it.
func TestP11_1_LevelOfOnes(t *testing.T) {
	want := []int{1, 2, 3, 4, 4, 4, 4, 4, 4}
	for ones := range 33 {
		level := 4
		if ones < len(want) {
			level = want[ones]
		}
		top := ^uint32(0) << (32 - ones)
		behind := ^top >> 1
		for _, below := range []uint32{0, behind, behind & 0x55555555, behind & 0xaaaaaaaa, behind & 1, behind & 0x00ffff00} {
			for _, start := range starts() {
				key := withSum(t, start, top|below)
				if got := Level(key); got != level {
					t.Errorf("Level of a key with the checksum %08x = %d, want %d", top|below, got, level)
				}
			}
		}
	}
}

// Level: ones that do not begin at the highest bit count for nothing, however many they are.
func TestP11_1_LevelOfOtherOnes(t *testing.T) {
	for n := 1; n <= 31; n++ {
		for from := 0; from+n <= 31; from++ {
			run := uint32(1<<n-1) << from
			if key := withSum(t, "k", run); Level(key) != 1 {
				t.Errorf("Level of a key with the checksum %08x = %d, want 1", run, Level(key))
			}
			if from+n > 30 {
				continue
			}
			// Behind a single one and a nought they count for nothing either.
			if key := withSum(t, "k", 1<<31|run); Level(key) != 2 {
				t.Errorf("Level of a key with the checksum %08x = %d, want 2", 1<<31|run, Level(key))
			}
		}
	}
}

// Every beginning of eight bits with every end of three.
func TestP11_1_EveryEnd(t *testing.T) {
	for top := range uint32(256) {
		for low := range uint32(8) {
			for _, middle := range []uint32{0, 0x00fffff8} {
				c := top<<24 | middle | low
				at(t, withSum(t, "", c), bucketOf(uint64(c)), levelOf(uint64(c)))
			}
		}
	}
}

func TestP11_1_OneByte(t *testing.T) {
	for x := range 256 {
		asModel(t, string([]byte{byte(x)}))
	}
}

func TestP11_1_TwoBytes(t *testing.T) {
	for x := range 256 {
		for y := range 256 {
			asModel(t, string([]byte{byte(x), byte(y)}))
		}
	}
}

// Lengths around those of a key that may be stored, of a head and its data, of a line and of a value, and far beyond.
func TestP11_1_Lengths(t *testing.T) {
	d := dice(11)
	for _, n := range []int{1, 15, 16, 17, 27, 28, 29, 35, 36, 37, 63, 64, 65, 127, 128, 255, 256, 257, 399, 400, 401, 469, 470, 512, 1000, 4095, 4096, 4097, 10000, 65535, 65536, 65537} {
		asModel(t, strings.Repeat("k", n))
		asModel(t, strings.Repeat("\x00", n))
		asModel(t, strings.Repeat("\xff", n))
		asModel(t, d.key(n))
	}
}

// A zero byte, at any place, is a byte like any other one.
func TestP11_1_ZeroBytes(t *testing.T) {
	for n := range 40 {
		zeros := strings.Repeat("\x00", n)
		asModel(t, zeros)
		asModel(t, "key"+zeros)
		asModel(t, zeros+"key")
		asModel(t, "k"+zeros+"ey")
	}
}

// What is no text is neither repaired nor refused, and text is taken by its bytes.
func TestP11_1_NoText(t *testing.T) {
	for _, key := range []string{"\x80", "\xbf", "\xc0", "\xc3", "\xc3\xa9", "\xc3\x28", "\xa9\xc3", "\xe2\x82", "\xe2\x82\xac", "\xed\xa0\x80", "\xf0\x9f\x98", "\xf4\x90\x80\x80", "\xfe\xff", "\xef\xbf\xbd", "é", "e\u0301", "€", "a\x80b", "\xff\x00\xff"} {
		asModel(t, key)
		asModel(t, key+key)
		asModel(t, "x"+key)
	}
	// Each of these would be the same key if it were repaired.
	if Bucket("\x80") == Bucket("\ufffd") && Level("\x80") == Level("\ufffd") {
		t.Error("a byte that is no text has the place of what would stand for it")
	}
}

// Upper and lower case, and spaces at the ends, make other keys.
func TestP11_1_AsTheyAre(t *testing.T) {
	for _, key := range []string{"key", "Key", "KEY", " key", "key ", "key\n", "\tkey", "key\r\n", "k ey"} {
		asModel(t, key)
	}
}

func TestP11_1_OneByteDiffers(t *testing.T) {
	for _, key := range keys() {
		if len(key) > 60 {
			continue
		}
		for i := range len(key) {
			for _, x := range []byte{1, 2, 7, 32, 128, 255} {
				other := []byte(key)
				other[i] ^= x
				asModel(t, string(other))
			}
		}
	}
}

func TestP11_1_LengthDiffers(t *testing.T) {
	for _, whole := range []string{strings.Repeat("a", 200), strings.Repeat("\x00", 200), strings.Repeat("ab\xff\x00", 50)} {
		for n := range len(whole) + 1 {
			asModel(t, whole[:n])
			asModel(t, whole[n:])
		}
	}
}

// Many keys against the model, with every bucket at every level among them.
func TestP11_1_ManyKeys(t *testing.T) {
	d := dice(1)
	had := map[[2]int]int{}
	for i := range 20000 {
		key := d.key(i % 33)
		asModel(t, key)
		had[[2]int{Bucket(key), Level(key)}]++
	}
	for bucket := range 8 {
		for level := 1; level <= 4; level++ {
			if had[[2]int{bucket, level}] == 0 {
				t.Errorf("no key came into bucket %d at level %d", bucket, level)
			}
		}
	}
	if len(had) != 32 {
		t.Errorf("there are %d places of keys, want 32: %v", len(had), had)
	}
}

func TestP11_1_NumberedKeys(t *testing.T) {
	for i := range 5000 {
		asModel(t, fmt.Sprint("k", i))
		asModel(t, fmt.Sprintf("user:%08d", i))
	}
}

// A key's place is the same, asked again and between other keys, in any order.
func TestR5_AskedAgain(t *testing.T) {
	all := keys()
	for range 3 {
		for _, key := range all {
			asModel(t, key)
			asModel(t, key)
		}
		slices.Reverse(all)
	}
	for _, key := range all {
		for _, other := range all[:12] {
			Bucket(other)
			asModel(t, key)
			Level(other)
			asModel(t, key)
		}
	}
}

// A key is its bytes, wherever they lie: alone, or as a piece of a longer string.
func TestR5_Pieces(t *testing.T) {
	whole := strings.Join(keys(), "|")
	for n := range 40 {
		for from := range 40 {
			piece := whole[from : from+n]
			if alone := strings.Clone(piece); Bucket(piece) != Bucket(alone) || Level(piece) != Level(alone) {
				t.Errorf("%q as a piece has another place than alone", piece)
			}
			asModel(t, piece)
		}
	}
}

func TestR5_ManyGoroutines(t *testing.T) {
	all := keys()
	var wait sync.WaitGroup
	for g := range 8 {
		wait.Go(func() {
			for i := range 4 * len(all) {
				key := all[(i*(g+1)+g)%len(all)]
				if c := literal(key); Bucket(key) != bucketOf(c) || Level(key) != levelOf(c) {
					t.Errorf("goroutine %d: %s is at %d, %d", g, short(key), Bucket(key), Level(key))
				}
			}
		})
	}
	wait.Wait()
}

// A key of megabytes ends in its time.
func TestR1_GreatKey(t *testing.T) {
	key := strings.Repeat("0123456789abcdef", 1<<17)
	c := uint64(crc32.ChecksumIEEE([]byte(key)))
	at(t, key, bucketOf(c), levelOf(c))
}
