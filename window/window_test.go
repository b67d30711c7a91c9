package window_test

import (
	"testing"

	"hatchway/api"
	"hatchway/window"
)

// last is the number that is never taken.
const last = 1<<64 - 1

// taken answers a window that has taken these, in this order.
func taken(t *testing.T, numbers ...uint64) window.Window {
	t.Helper()
	var w window.Window
	for _, n := range numbers {
		if !w.Take(n) {
			t.Fatalf("%d was not taken", n)
		}
	}
	return w
}

// fresh fails, unless Fresh and, of a copy, Take both answer want.
func fresh(t *testing.T, w window.Window, n uint64, want bool) {
	t.Helper()
	if got := w.Fresh(n); got != want {
		t.Errorf("Fresh(%d): got %v", n, got)
	}
	if got := w.Take(n); got != want {
		t.Errorf("Take(%d): got %v", n, got)
	}
}

// top fails, unless the window tells that one.
func top(t *testing.T, w *window.Window, want uint64, is bool) {
	t.Helper()
	if got, ok := w.Top(); got != want || ok != is {
		t.Errorf("Top: got %d, %v, want %d, %v", got, ok, want, is)
	}
}

// edges answers numbers at which a window could go wrong.
func edges() []uint64 {
	return []uint64{
		0, 1, 2, 31, 32, 62, 63, 64, 65, 66, 126, 127, 128, 129, 1000, 1<<31 - 1, 1 << 31, 1<<32 - 1, 1 << 32, 1<<32 + 1,
		1<<63 - 65, 1<<63 - 64, 1<<63 - 63, 1<<63 - 1, 1 << 63, 1<<63 + 1, 1<<63 + 63, 1<<63 + 64, 1<<63 + 65,
		last - 129, last - 128, last - 127, last - 66, last - 65, last - 64, last - 63, last - 2, last - 1,
	}
}

func TestExamples(t *testing.T) {
	var w window.Window
	for _, c := range []struct {
		n    uint64
		want bool
	}{{5, true}, {5, false}, {100, true}, {36, false}, {37, true}} {
		if got := w.Take(c.n); got != c.want {
			t.Errorf("Take(%d): got %v", c.n, got)
		}
	}
	top(t, &w, 100, true)
}

func TestZeroWindowTakesAllButTheLast(t *testing.T) {
	for _, n := range edges() {
		fresh(t, window.Window{}, n, true)
		fresh(t, *new(window.Window), n, true)
	}
	fresh(t, window.Window{}, last, false)
}

func TestLastIsNeverTaken(t *testing.T) {
	for _, n := range edges() {
		w := taken(t, n)
		for range 2 {
			if w.Fresh(last) || w.Take(last) {
				t.Errorf("behind %d: it was taken", n)
			}
		}
		top(t, &w, n, true)
	}
	w := taken(t, last-1)
	fresh(t, w, last, false)
	fresh(t, w, 0, false)
	fresh(t, w, last-2, true)
}

func TestWhatTheGreatestIsAboveOf(t *testing.T) {
	for _, greatest := range edges() {
		w := taken(t, greatest)
		for below := range min(greatest, 300) + 1 {
			fresh(t, w, greatest-below, below > 0 && below < api.Slots)
		}
		for above := uint64(1); above < 300 && above <= last-greatest; above++ {
			fresh(t, w, greatest+above, greatest+above != last)
		}
		for _, n := range edges() {
			if n < greatest {
				fresh(t, w, n, greatest-n < 64)
			}
		}
	}
}

// Below the first ones there is nothing that a window could have lost.
func TestNearNothing(t *testing.T) {
	for n := range uint64(130) {
		w := taken(t, n)
		fresh(t, w, 0, n > 0 && n < 64)
		fresh(t, w, n, false)
		fresh(t, w, n+1, true)
		// Below 64 this goes round: those numbers are far above n, the last one among them.
		fresh(t, w, n-64, n < 63)
	}
}

// What is pushed out of the window stays out, and what stays in it stays taken.
func TestAJumpKeepsWhatWasTaken(t *testing.T) {
	for _, first := range []uint64{0, 1, 63, 64, 1<<63 - 40, last - 500} {
		for jump := range uint64(200) {
			w := taken(t, first)
			if got := w.Take(first + jump); got != (jump > 0) {
				t.Errorf("%d, and %d above: got %v", first, jump, got)
			}
			top(t, &w, first+jump, true)
			for n := first; n <= first+jump; n++ {
				fresh(t, w, n, n != first && n != first+jump && first+jump-n < 64)
			}
		}
	}
}

func TestAllOfTheWindowOnce(t *testing.T) {
	for _, greatest := range []uint64{63, 64, 100, 1 << 63, 1<<63 + 20, last - 1} {
		rising, falling := taken(t, greatest), taken(t, greatest)
		for i := range uint64(63) {
			if n := greatest - 63 + i; !rising.Take(n) || rising.Take(n) {
				t.Errorf("rising, %d below %d", greatest-n, greatest)
			}
			if n := greatest - 1 - i; !falling.Take(n) || falling.Take(n) {
				t.Errorf("falling, %d below %d", greatest-n, greatest)
			}
		}
		for below := range uint64(64) {
			fresh(t, rising, greatest-below, false)
			fresh(t, falling, greatest-below, false)
		}
		top(t, &rising, greatest, true)
		top(t, &falling, greatest, true)
	}
}

func TestTop(t *testing.T) {
	var w window.Window
	top(t, &w, 0, false)
	w.Fresh(7)
	w.Take(last)
	top(t, &w, 0, false)
	for _, c := range []struct{ n, greatest uint64 }{
		{0, 0}, {0, 0}, {last, 0}, {63, 63}, {1, 63}, {63, 63}, {200, 200}, {137, 200}, {136, 200}, {150, 200},
		{1 << 63, 1 << 63}, {3, 1 << 63}, {1<<63 - 1, 1 << 63}, {last - 1, last - 1}, {last, last - 1}, {last - 2, last - 1},
	} {
		w.Take(c.n)
		top(t, &w, c.greatest, true)
	}
}

func TestARefusedTakeChangesNothing(t *testing.T) {
	for _, greatest := range edges() {
		w := taken(t, greatest)
		refused := append(edges(), last, greatest)
		for range 2 {
			for _, n := range refused {
				if n == last || n == greatest || n < greatest && greatest-n >= 64 {
					if w.Take(n) {
						t.Errorf("behind %d: %d was taken", greatest, n)
					}
				}
			}
		}
		top(t, &w, greatest, true)
		for below := range min(greatest, 100) + 1 {
			fresh(t, w, greatest-below, below > 0 && below < 64)
		}
		fresh(t, w, greatest+1, greatest+1 != last)
	}
}

func TestFreshAndTopChangeNothing(t *testing.T) {
	var asked, left window.Window
	for i, n := range append(edges(), 1<<63+2, last-60, last-3, 5) {
		for _, q := range append(edges(), last, n, n+1, n-1, n+63, n+64, n-63, n-64) {
			asked.Fresh(q)
			asked.Top()
		}
		if got, want := asked.Take(n), left.Take(n); got != want {
			t.Errorf("%d: Take(%d): got %v", i, n, got)
		}
		greatest, is := left.Top()
		top(t, &asked, greatest, is)
	}
	var w window.Window
	for range 3 {
		if !w.Fresh(9) || !w.Fresh(0) {
			t.Error("Fresh took it")
		}
		top(t, &w, 0, false)
	}
}

func TestCopiesGoTheirOwnWay(t *testing.T) {
	from := taken(t, 50, 100, 90)
	to := from
	if !to.Take(200) || !to.Take(199) {
		t.Error("the copy takes nothing")
	}
	top(t, &from, 100, true)
	fresh(t, from, 99, true)
	fresh(t, from, 199, true)
	if !from.Take(99) || !from.Take(101) || from.Take(90) {
		t.Error("the one that was copied is another one")
	}
	top(t, &to, 200, true)
	fresh(t, to, 101, false)
	fresh(t, to, 199, false)
	fresh(t, to, 198, true)

	third := to
	if !third.Take(150) {
		t.Error("150 is fresh")
	}
	fresh(t, to, 150, true)
	to.Take(151)
	fresh(t, third, 151, true)
	fresh(t, third, 150, false)

	var none window.Window
	some := none
	some.Take(3)
	top(t, &none, 0, false)
	some = none
	fresh(t, some, 3, true)
	top(t, &some, 0, false)
}

// A struct that has a window, or an array of them, is copied with it.
func TestCopiesWithinOthers(t *testing.T) {
	type box struct{ w [2]window.Window }
	var a box
	a.w[0].Take(1)
	b := a
	b.w[0].Take(2)
	b.w[1].Take(1)
	top(t, &a.w[0], 1, true)
	top(t, &a.w[1], 0, false)
	top(t, &b.w[0], 2, true)
	fresh(t, b.w[0], 1, false)
}
