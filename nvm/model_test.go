package nvm

import (
	"bytes"
	"slices"
	"testing"

	"fusee/api"
)

// model is the chapter's device, written another way: maps from lines to texts, and a line that is not in a map is zero.
type model struct {
	lines              int
	volatile, lasting  map[int]string
	way                map[int]string
	stores, flushes    int
	fences, backs, cut int
}

func newModel(lines int) *model {
	return &model{lines: lines, volatile: map[int]string{}, lasting: map[int]string{}, way: map[int]string{}}
}

// text returns what a map says of a line.
func text(m map[int]string, line int) string {
	if s, ok := m[line]; ok {
		return s
	}
	return string(make([]byte, 64))
}

func (m *model) has(line int) bool { return 0 <= line && line < m.lines }

func (m *model) store(line, at int, b []byte) api.Errno {
	if !m.has(line) || at < 0 || at+len(b) > 64 {
		return api.ErrRange
	}
	s := text(m.volatile, line)
	m.volatile[line] = s[:at] + string(b) + s[at+len(b):]
	m.stores++
	return api.OK
}

func (m *model) flush(line int) api.Errno {
	if !m.has(line) {
		return api.ErrRange
	}
	m.way[line] = text(m.volatile, line)
	m.flushes++
	return api.OK
}

func (m *model) fence() api.Errno {
	for line, s := range m.way {
		m.lasting[line] = s
	}
	clear(m.way)
	m.fences++
	return api.OK
}

func (m *model) back(line int) api.Errno {
	if !m.has(line) {
		return api.ErrRange
	}
	m.lasting[line] = text(m.volatile, line)
	delete(m.way, line)
	m.backs++
	return api.OK
}

func (m *model) loose() []int {
	var l []int
	for line := range m.lines {
		if text(m.volatile, line) != text(m.lasting, line) {
			l = append(l, line)
		}
	}
	return l
}

func (m *model) power(keep []int) []int {
	var lost []int
	for _, line := range m.loose() {
		if slices.Contains(keep, line) {
			m.lasting[line] = text(m.volatile, line)
		} else {
			lost = append(lost, line)
		}
	}
	clear(m.volatile)
	for line, s := range m.lasting {
		m.volatile[line] = s
	}
	clear(m.way)
	m.cut++
	return lost
}

// same fails the test if the device is not as the model says.
func (m *model) same(t *testing.T, d *Dev) {
	t.Helper()
	var way []int
	for line := range m.lines {
		b, e := d.Load(line)
		p, f := d.Durable(line)
		if e != api.OK || f != api.OK || string(b) != text(m.volatile, line) || string(p) != text(m.lasting, line) {
			t.Fatalf("line %d is %x, %x (%d, %d), want %x, %x", line, b, p, e, f, text(m.volatile, line), text(m.lasting, line))
		}
		if _, ok := m.way[line]; ok {
			way = append(way, line)
		}
	}
	if !slices.Equal(d.Loose(), m.loose()) || !slices.Equal(d.Way(), way) {
		t.Fatalf("loose %v, on their way %v, want %v, %v", d.Loose(), d.Way(), m.loose(), way)
	}
	want := api.Counts{Stores: m.stores, Flushes: m.flushes, Fences: m.fences, Backs: m.backs, Cuts: m.cut}
	if d.Counts() != want {
		t.Fatalf("counts %v, want %v", d.Counts(), want)
	}
}

// dice are numbers that look random and are the same in every run.
type dice uint32

func (r *dice) upTo(n int) int {
	*r = *r*1664525 + 1013904223
	return int(uint32(*r)>>8) % n
}

// turn makes one call of the device and of the model.
func turn(t *testing.T, r *dice, d *Dev, m *model) {
	t.Helper()
	line := r.upTo(m.lines+2) - 1
	var got, want api.Errno
	switch r.upTo(9) {
	case 0, 1, 2:
		at, b := r.upTo(70)-2, bytes.Repeat([]byte{byte(r.upTo(3))}, r.upTo(66))
		got, want = d.Store(line, at, b), m.store(line, at, b)
	case 3, 4:
		got, want = d.Flush(line), m.flush(line)
	case 5:
		got, want = d.Fence(), m.fence()
	case 6, 7:
		got, want = d.Back(line), m.back(line)
	case 8:
		keep := make([]int, r.upTo(m.lines+2))
		for i := range keep {
			keep[i] = r.upTo(m.lines+4) - 2
		}
		lost, e := d.Cut(keep)
		if wanted := m.power(keep); !slices.Equal(lost, wanted) {
			t.Fatalf("Cut(%v) lost %v, want %v", keep, lost, wanted)
		}
		got = e
	}
	if got != want {
		t.Fatalf("a call answered %d, want %d", got, want)
	}
}

func TestP3_AgainstModel(t *testing.T) {
	for seed := range 60 {
		r := dice(seed)
		lines := 1 + seed%7
		d, _ := New(lines)
		m := newModel(lines)
		for range 400 {
			turn(t, &r, d, m)
			m.same(t, d)
			if r.upTo(10) == 0 {
				// The copy goes on instead of the original, which is made unlike it.
				c := d.Copy()
				d.Store(0, 0, bytes.Repeat([]byte{200}, 64))
				d.Fence()
				d.Cut([]int{0})
				d = c
				m.same(t, d)
			}
		}
	}
}

// Bytes that were flushed and fenced stay until a store, whatever else is called: watched from outside, without the model.
func TestP3_5_Theorem(t *testing.T) {
	for seed := range 40 {
		r := dice(1000 + seed)
		lines := 2 + seed%4
		d, _ := New(lines)
		m := newModel(lines)
		for range 100 {
			turn(t, &r, d, m)
		}
		d.Store(0, r.upTo(60), []byte{7, 8, 9})
		want, _ := d.Load(0)
		d.Flush(0)
		d.Fence()
		for range 300 {
			calmTurn(&r, d, lines)
			got, _ := d.Durable(0)
			now, _ := d.Load(0)
			if !bytes.Equal(got, want) || !bytes.Equal(now, want) {
				t.Fatalf("seed %d: the line became %x, %x, want %x", seed, now, got, want)
			}
		}
	}
}

// calmTurn makes one call that stores nothing to line 0.
func calmTurn(r *dice, d *Dev, lines int) {
	line := r.upTo(lines)
	switch r.upTo(5) {
	case 0:
		d.Store(1+r.upTo(lines-1), r.upTo(64), []byte{byte(r.upTo(256))})
	case 1:
		d.Flush(line)
	case 2:
		d.Fence()
	case 3:
		d.Back(line)
	case 4:
		d.Cut([]int{line, r.upTo(lines)})
	}
}
