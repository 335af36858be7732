package ring_test

import (
	"slices"
	"testing"

	"floodgate/ring"
)

// wantHeld checks a ring against the things it must hold, the oldest first.
func wantHeld[T comparable](t *testing.T, r *ring.Ring[T], size int, held []T) {
	t.Helper()
	if r.Len() != len(held) || r.IsFull() != (len(held) == size) {
		t.Fatalf("a ring of %d: Len %d, IsFull %v, want %d things", size, r.Len(), r.IsFull(), len(held))
	}
	for i, want := range held {
		if got := r.Back(len(held) - i); got != want {
			t.Fatalf("a ring of %d that holds %v: Back(%d) = %v", size, held, len(held)-i, got)
		}
	}
}

func TestPushLosesTheOldest(t *testing.T) {
	for size := 1; size <= 5; size++ {
		r := ring.New[int](size)
		var pushed []int
		for n := range 4 * size {
			wantHeld(t, r, size, pushed[max(0, n-size):])
			r.Push(n)
			pushed = append(pushed, n)
		}
	}
}

func TestTakeGivesTheOldestFirst(t *testing.T) {
	// Each pair of numbers of pushes and takes goes round the ring at another pace.
	for _, size := range []int{1, 2, 3, 64} {
		for pushes := 1; pushes <= size; pushes++ {
			for _, most := range []int{0, 1, 2, pushes, size + 1} {
				pushAndTake(t, size, pushes, most)
			}
		}
	}
}

func pushAndTake(t *testing.T, size, pushes, most int) {
	t.Helper()
	r := ring.New[int](size)
	var held []int
	for n := range 3 * size {
		for i := range pushes {
			r.Push(n*pushes + i)
			held = append(held, n*pushes+i)
		}
		held = held[max(0, len(held)-size):]
		count := min(most, len(held))
		if got := r.Take(most); !slices.Equal(got, held[:count]) {
			t.Fatalf("a ring of %d that holds %v: Take(%d) = %v", size, held, most, got)
		}
		held = held[count:]
		wantHeld(t, r, size, held)
	}
}

func TestTakeOfNothing(t *testing.T) {
	r := ring.New[string](2)
	for _, most := range []int{-1, 0, 1, 3} {
		if got := r.Take(most); len(got) != 0 {
			t.Errorf("an empty ring: Take(%d) = %v", most, got)
		}
	}
	r.Push("a")
	for _, most := range []int{-1, 0} {
		if got := r.Take(most); len(got) != 0 {
			t.Errorf("Take(%d) = %v", most, got)
		}
	}
	wantHeld(t, r, 2, []string{"a"})
}

func TestTakeGivesNewMemory(t *testing.T) {
	r := ring.New[byte](3)
	for _, b := range []byte("abc") {
		r.Push(b)
	}
	taken := r.Take(2)
	for _, b := range []byte("de") {
		r.Push(b)
	}
	if string(taken) != "ab" {
		t.Errorf("a push is seen in what was taken: %q", taken)
	}
	copy(taken, "xy")
	wantHeld(t, r, 3, []byte("cde"))
}

func TestRingsAreApart(t *testing.T) {
	first, second := ring.New[int](2), ring.New[int](2)
	first.Push(1)
	second.Push(2)
	wantHeld(t, first, 2, []int{1})
	wantHeld(t, second, 2, []int{2})
}

func TestClearLeavesNothing(t *testing.T) {
	for size := 1; size <= 4; size++ {
		for pushes := range 3 * size {
			r := ring.New[int](size)
			for n := range pushes {
				r.Push(n)
			}
			r.Clear()
			wantHeld(t, r, size, nil)
			var pushed []int
			for n := range 2 * size {
				r.Push(100 + n)
				pushed = append(pushed, 100+n)
				wantHeld(t, r, size, pushed[max(0, len(pushed)-size):])
			}
		}
	}
}
