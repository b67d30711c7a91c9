package window_test

import (
	"maps"
	"slices"
	"testing"

	"hatchway/samples"
	"hatchway/window"
)

// plain is a window that keeps every number that was taken.
type plain struct {
	all map[uint64]bool
}

func newPlain() plain {
	return plain{all: map[uint64]bool{}}
}

func (p plain) clone() plain {
	return plain{all: maps.Clone(p.all)}
}

func (p plain) top() (uint64, bool) {
	greatest := uint64(0)
	for n := range p.all {
		greatest = max(greatest, n)
	}
	return greatest, len(p.all) > 0
}

func (p plain) fresh(n uint64) bool {
	if n == last || p.all[n] {
		return false
	}
	greatest, is := p.top()
	// So near to the last one that 64 more would go round, it has none above it by as much.
	return !is || n > last-64 || greatest < n+64
}

func (p plain) take(n uint64) bool {
	if !p.fresh(n) {
		return false
	}
	p.all[n] = true
	return true
}

// both has the window and the plain one take n, and fails if they differ.
func both(t *testing.T, w *window.Window, p plain, n uint64) {
	t.Helper()
	want := p.fresh(n)
	if got := w.Fresh(n); got != want {
		t.Fatalf("Fresh(%d): got %v", n, got)
	}
	if got := w.Take(n); got != want || p.take(n) != want {
		t.Fatalf("Take(%d): got %v", n, got)
	}
	alike(t, w, p)
}

// alike fails, unless both have the same Top.
func alike(t *testing.T, w *window.Window, p plain) {
	t.Helper()
	greatest, is := p.top()
	if got, ok := w.Top(); got != greatest || ok != is {
		t.Fatalf("Top: got %d, %v, want %d, %v", got, ok, greatest, is)
	}
}

// likeAll fails, unless both tell the same of all the numbers near those that they could tell apart.
func likeAll(t *testing.T, w *window.Window, p plain) {
	t.Helper()
	alike(t, w, p)
	greatest, _ := p.top()
	for i := range uint64(150) {
		for _, n := range []uint64{greatest - i, greatest + i, i, last - i, 1<<63 - 75 + i} {
			if got, want := w.Fresh(n), p.fresh(n); got != want {
				t.Fatalf("greatest %d: Fresh(%d): got %v", greatest, n, got)
			}
		}
	}
}

// starts answers where ways begin: near 0, near 2^63, near the last one, and elsewhere.
func starts() []uint64 {
	return []uint64{
		0, 1, 63, 64, 65, 1000, 1<<32 - 50, 1<<63 - 64, 1<<63 - 1, 1 << 63, last - 20000, last - 2000, last - 200, last - 65, last - 64, last - 63, last - 2, last - 1, last,
	}
}

func TestStepsOfOneSize(t *testing.T) {
	for _, n := range starts() {
		for _, step := range []uint64{0, 1, 2, 3, 7, 31, 32, 33, 62, 63, 64, 65, 66, 127, 128, 129, 1000, 1 << 32, 1 << 62, 1 << 63} {
			// Both ways; beyond an end they go on at the other one.
			for _, d := range []uint64{step, -step} {
				w, p := window.Window{}, newPlain()
				for i := range uint64(80) {
					both(t, &w, p, n+i*d)
				}
				likeAll(t, &w, p)
			}
		}
	}
}

// A jump up, then numbers below it: those that the jump has left in the window, and those that it has not.
func TestJumpsThenBelow(t *testing.T) {
	for _, start := range starts() {
		for _, jump := range []uint64{1, 2, 62, 63, 64, 65, 66, 127, 128, 1000, 1 << 40} {
			w, p := window.Window{}, newPlain()
			n := start
			for range 12 {
				n += jump
				both(t, &w, p, n)
				for _, below := range []uint64{0, 1, 5, 62, 63, 64, 65, jump, jump - 1, jump + 1, 63, 1} {
					both(t, &w, p, n-below)
				}
			}
			likeAll(t, &w, p)
		}
	}
}

// each hands over all rows of some length that can be made of these.
func each(numbers []uint64, length int, do func(row []uint64)) {
	row := make([]uint64, length)
	places := make([]int, length)
	for {
		for i, place := range places {
			row[i] = numbers[place]
		}
		do(row)
		i := 0
		for ; i < length; i++ {
			places[i]++
			if places[i] < len(numbers) {
				break
			}
			places[i] = 0
		}
		if i == length {
			return
		}
	}
}

func TestAllShortRows(t *testing.T) {
	for _, start := range []uint64{0, 1, 1<<63 - 64, last - 128, last - 127} {
		numbers := []uint64{start, start + 1, start + 63, start + 64, start + 65, start + 127, start + 128}
		each(numbers, 4, func(row []uint64) {
			w, p := window.Window{}, newPlain()
			for _, n := range row {
				both(t, &w, p, n)
			}
			for _, n := range numbers {
				if w.Fresh(n) != p.fresh(n) {
					t.Fatalf("behind %d: Fresh(%d)", row, n)
				}
			}
		})
	}
}

// wander answers a long row of numbers: mostly near the greatest one, at times far above it, and at times one again.
func wander(start uint64, seed uint32) []uint64 {
	b := samples.Mixed(900, seed)
	row := make([]uint64, 0, len(b)/3)
	n := start
	for ; len(b) >= 3; b = b[3:] {
		near := uint64(b[1]) % 70
		switch b[0] % 8 {
		case 0:
			n += 63 + near%3
		case 1:
			n += uint64(b[1])*256 + uint64(b[2])
		case 2:
			n += near
		case 3:
			n -= near
		case 4:
			row = append(row, n)
		default:
			row = append(row, n-near)
		}
		row = append(row, n)
	}
	return row
}

func TestLongRows(t *testing.T) {
	for i, start := range starts() {
		for seed := range uint32(40) {
			w, p := window.Window{}, newPlain()
			for _, n := range wander(start, 1000*uint32(i)+seed) {
				both(t, &w, p, n)
			}
			likeAll(t, &w, p)
		}
	}
}

// P5: in whatever order the calls come.
func TestNoNumberIsTakenTwice(t *testing.T) {
	for i, start := range starts() {
		for seed := range uint32(20) {
			var w window.Window
			times := map[uint64]int{}
			row := wander(start, 77*uint32(i)+seed)
			slices.Sort(row[:len(row)/3])
			back := slices.Clone(row)
			slices.Reverse(back)
			for _, n := range slices.Concat(row, back, row) {
				if w.Take(n) {
					times[n]++
				}
			}
			for n, count := range times {
				if count != 1 {
					t.Errorf("from %d: %d was taken %d times", start, n, count)
				}
			}
		}
	}
}

// A number that comes late, but within the window, is not lost.
func TestEachOfAMixedOrderIsTaken(t *testing.T) {
	for _, start := range []uint64{0, 1<<63 - 500, last - 64*20} {
		var w window.Window
		for block := range uint64(20) {
			// Odd steps through 64 places meet each of them once.
			for i := range uint64(64) {
				if n := start + 64*block + i*37%64; !w.Take(n) {
					t.Errorf("%d was not taken", n)
				}
			}
		}
	}
}

func TestWindowsHaveNothingToDoWithEachOther(t *testing.T) {
	var ws [5]window.Window
	var ps [len(ws)]plain
	var rows [len(ws)][]uint64
	for i := range ws {
		ps[i] = newPlain()
		rows[i] = wander(starts()[3*i], uint32(i))
	}
	for at := range 300 {
		for i := range ws {
			if at < len(rows[i]) {
				both(t, &ws[i], ps[i], rows[i][at])
			}
		}
	}
	for i := range ws {
		likeAll(t, &ws[i], ps[i])
	}
}

func TestCopiesOnTheWay(t *testing.T) {
	for i, start := range starts() {
		row, other := wander(start, uint32(i)), wander(start+100, 500+uint32(i))
		w, p := window.Window{}, newPlain()
		for at, n := range row[:100] {
			both(t, &w, p, n)
			if at%9 != 0 {
				continue
			}
			to, of := w, p.clone()
			likeAll(t, &to, of)
			for _, m := range other[at : at+20] {
				both(t, &to, of, m)
			}
			likeAll(t, &to, of)
			likeAll(t, &w, p)
		}
	}
}

func TestTheSameCallsHaveTheSameAnswers(t *testing.T) {
	for i, start := range starts() {
		var a, b window.Window
		for _, n := range wander(start, 900+uint32(i)) {
			greatest, is := a.Top()
			top(t, &b, greatest, is)
			if a.Fresh(n+1) != b.Fresh(n+1) || a.Take(n) != b.Take(n) {
				t.Fatalf("from %d: %d", start, n)
			}
		}
	}
}
