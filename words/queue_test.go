package words_test

import (
	"math"
	"slices"
	"testing"

	"hatchway/words"
)

// filled answers a queue of that room, into which all of these were pushed.
func filled(t *testing.T, room int, all ...int) *words.Queue[int] {
	t.Helper()
	q := words.NewQueue[int](room)
	for _, v := range all {
		if !q.Push(v) {
			t.Fatalf("no room for %d", v)
		}
	}
	return q
}

// has fails, unless the queue has just these, in this order.
func has(t *testing.T, q *words.Queue[int], want ...int) {
	t.Helper()
	if got := slices.Collect(q.All()); !slices.Equal(got, want) {
		t.Errorf("All: got %v, want %v", got, want)
	}
	if q.Len() != len(want) {
		t.Errorf("Len: got %d, want %d", q.Len(), len(want))
	}
}

func TestQueueRoom(t *testing.T) {
	for _, c := range []struct{ n, room int }{
		{math.MinInt, 0},
		{-1, 0},
		{0, 0},
		{1, 1},
		{3, 3},
		{1<<16 - 1, 1<<16 - 1},
		{1 << 16, 1 << 16},
		{1<<16 + 1, 1 << 16},
		{math.MaxInt, 1 << 16},
	} {
		q := words.NewQueue[int](c.n)
		if q.Len() != 0 {
			t.Errorf("room %d: a new one has %d", c.n, q.Len())
		}
		pushed := 0
		for pushed <= 1<<16 && q.Push(pushed) {
			pushed++
		}
		if pushed != c.room || q.Len() != c.room {
			t.Errorf("room %d: took %d and has %d, want %d", c.n, pushed, q.Len(), c.room)
		}
	}
}

func TestRoomIsNotTakenAhead(t *testing.T) {
	q := words.NewQueue[[1 << 24]byte](math.MaxInt)
	if q.Len() != 0 {
		t.Error("a new one has something")
	}
}

func TestPushRefusesWhenFull(t *testing.T) {
	q := filled(t, 2, 10, 20)
	for range 3 {
		if q.Push(30) {
			t.Error("there was room for a third one")
		}
		has(t, q, 10, 20)
	}
	if v, ok := q.Pop(); v != 10 || !ok {
		t.Errorf("Pop: got %d, %v", v, ok)
	}
	if !q.Push(40) || q.Push(50) {
		t.Error("behind a Pop there is room for just one")
	}
	has(t, q, 20, 40)
}

func TestPopAnswersTheFirst(t *testing.T) {
	q := filled(t, 3, 1, 2, 3)
	for want := 1; want <= 3; want++ {
		if v, ok := q.Pop(); v != want || !ok {
			t.Errorf("got %d, %v, want %d", v, ok, want)
		}
		if q.Len() != 3-want {
			t.Errorf("behind %d there are %d", want, q.Len())
		}
	}
}

func TestPopOfAnEmptyQueue(t *testing.T) {
	q := filled(t, 1, 7)
	q.Pop()
	for range 2 {
		if v, ok := q.Pop(); v != 0 || ok {
			t.Errorf("got %d, %v", v, ok)
		}
	}
	has(t, q)
	if v, ok := words.NewQueue[*int](-5).Pop(); v != nil || ok {
		t.Errorf("without room: got %v, %v", v, ok)
	}
	if v, ok := words.NewQueue[string](4).Pop(); v != "" || ok {
		t.Errorf("of texts: got %q, %v", v, ok)
	}
	if !q.Push(8) {
		t.Error("an empty one has no room any more")
	}
	has(t, q, 8)
}

func TestAZeroValueIsPushedAndPoppedToo(t *testing.T) {
	q := filled(t, 2, 0, 0)
	has(t, q, 0, 0)
	if v, ok := q.Pop(); v != 0 || !ok {
		t.Errorf("got %d, %v", v, ok)
	}
	has(t, q, 0)
}

func TestQueueIsAsAListIs(t *testing.T) {
	const room = 5
	q := words.NewQueue[int](room)
	var list []int
	for i := range 2000 {
		if i*i%7 < 4 {
			fits := len(list) < room
			if q.Push(i) != fits {
				t.Fatalf("step %d: Push is not %v", i, fits)
			}
			if fits {
				list = append(list, i)
			}
		} else {
			v, ok := q.Pop()
			if ok != (len(list) > 0) || ok && v != list[0] || !ok && v != 0 {
				t.Fatalf("step %d: Pop of %v: got %d, %v", i, list, v, ok)
			}
			if ok {
				list = list[1:]
			}
		}
		has(t, q, list...)
	}
}

func TestAllMayBeStopped(t *testing.T) {
	q := filled(t, 4, 1, 2, 3, 4)
	var got []int
	for v := range q.All() {
		got = append(got, v)
		if v == 2 {
			break
		}
	}
	if !slices.Equal(got, []int{1, 2}) {
		t.Errorf("got %v", got)
	}
	has(t, q, 1, 2, 3, 4)

	calls := 0
	q.All()(func(int) bool {
		calls++
		return false
	})
	if calls != 1 {
		t.Errorf("who stopped was called %d times", calls)
	}
}

func TestAllOfAnEmptyQueue(t *testing.T) {
	for _, q := range []*words.Queue[int]{words.NewQueue[int](0), words.NewQueue[int](9)} {
		for v := range q.All() {
			t.Errorf("got %d", v)
		}
	}
}

func TestAllTellsWhatIsThereWhenTheRangeBegins(t *testing.T) {
	q := filled(t, 3, 1)
	all := q.All()
	q.Push(2)
	for range 2 {
		if got := slices.Collect(all); !slices.Equal(got, []int{1, 2}) {
			t.Errorf("got %v", got)
		}
	}
}

func TestAllEndsThoughTheQueueGoesOn(t *testing.T) {
	q := filled(t, 3, 1, 2, 3)
	var got []int
	for v := range q.All() {
		got = append(got, v)
		first, _ := q.Pop()
		q.Push(first + 10)
		if len(got) > 3 {
			break
		}
	}
	if !slices.Equal(got, []int{1, 2, 3}) {
		t.Errorf("got %v", got)
	}
	has(t, q, 11, 12, 13)
}

func TestQueuesAreApart(t *testing.T) {
	a, b := filled(t, 2, 1, 2), filled(t, 2, 3)
	a.Pop()
	b.Push(4)
	has(t, a, 2)
	has(t, b, 3, 4)
}

func TestWhatIsCollectedIsTheCallers(t *testing.T) {
	q := filled(t, 2, 1, 2)
	got := slices.Collect(q.All())
	got[0] = 9
	has(t, q, 1, 2)
}
