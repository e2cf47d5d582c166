package ring

import (
	"errors"
	"math"
	"math/big"
	"reflect"
	"slices"
	"strconv"
	"testing"
)

// lengths are those of rings that are asked all they can tell.
var lengths = []int{1, 2, 3, 4, 5, 7, 8, 10, 64, 100, 1000, 1<<20 - 1, 1 << 20}

// numbers are what may be handed to a ring of a length: those about each turn, and the greatest and the least ones.
func numbers(length int) []int {
	ns := []int{math.MinInt, math.MinInt + 1, math.MaxInt - 1, math.MaxInt, math.MinInt / 2, math.MaxInt / 2, math.MaxInt/2 + 1}
	ns = append(ns, math.MinInt32, math.MinInt32-1, math.MaxInt32, math.MaxInt32+1, 1<<20, 1<<20-1, -1<<20)
	for _, turns := range []int{-1000003, -3, -2, -1, 0, 1, 2, 3, 1000003} {
		for by := -2; by <= 2; by++ {
			ns = append(ns, turns*length+by)
		}
	}
	slices.Sort(ns)
	return slices.Compact(ns)
}

// placeOf is what is left of a sum of numbers by a length, from 0 on, however great the sum.
func placeOf(length int, ns ...int) int {
	sum := new(big.Int)
	for _, n := range ns {
		sum.Add(sum, big.NewInt(int64(n)))
	}
	return int(sum.Mod(sum, big.NewInt(int64(length))).Int64())
}

// farOf is how many places it takes from one to another.
func farOf(length, from, to int) int {
	gap := new(big.Int).Sub(big.NewInt(int64(to)), big.NewInt(int64(from)))
	return int(gap.Mod(gap, big.NewInt(int64(length))).Int64())
}

// counting has at each place that place's number, and a thousand.
func counting(length int) *Ring[int] {
	r := New(length, 0)
	for i := range length {
		r.Set(i, i+1000)
	}
	return r
}

// told is what is told of places: numbers of places, and values.
func told[T any](r *Ring[T], at, n int) ([]int, []T) {
	var places []int
	var values []T
	for p, v := range r.From(at, n) {
		places, values = append(places, p), append(values, v)
	}
	return places, values
}

func TestF1ExamplesOfTheChapter(t *testing.T) {
	r := New(5, "x")
	if got := r.Go(3, 4); got != 2 {
		t.Errorf("Go(3, 4): %d", got)
	}
	if got := r.Far(3, 1); got != 3 {
		t.Errorf("Far(3, 1): %d", got)
	}
}

func TestF1NewHasSoManyPlacesOfAValue(t *testing.T) {
	for _, c := range []struct{ n, want int }{
		{1, 1}, {2, 2}, {3, 3}, {5, 5}, {1000, 1000}, {1<<20 - 1, 1<<20 - 1}, {1 << 20, 1 << 20},
		{0, 1}, {-1, 1}, {-5, 1}, {-1 << 20, 1}, {math.MinInt, 1}, {math.MinInt + 1, 1}, {math.MinInt32, 1},
		{1<<20 + 1, 1 << 20}, {1 << 21, 1 << 20}, {1 << 32, 1 << 20}, {1<<32 + 1, 1 << 20}, {1 << 62, 1 << 20}, {math.MaxInt - 1, 1 << 20}, {math.MaxInt, 1 << 20},
	} {
		r := New(c.n, 77)
		if got := r.Len(); got != c.want {
			t.Fatalf("New(%d): %d places, want %d", c.n, got, c.want)
		}
		for i := range c.want {
			if got := r.Get(i); got != 77 {
				t.Fatalf("New(%d): %d at %d", c.n, got, i)
			}
		}
		if r.Get(-1) != 77 || r.Get(c.want) != 77 {
			t.Fatalf("New(%d): beyond", c.n)
		}
	}
}

func TestF1OneBehindTheLastIsTheFirst(t *testing.T) {
	for _, length := range lengths {
		r := counting(length)
		for _, c := range []struct{ at, want int }{
			{0, 0}, {length - 1, length - 1}, {length, 0}, {length + length - 1, length - 1}, {2 * length, 0},
			{-1, length - 1}, {-length, 0}, {-length - 1, length - 1}, {-2 * length, 0}, {-2*length - 1, length - 1},
		} {
			if got := r.Get(c.at); got != c.want+1000 {
				t.Errorf("length %d, Get(%d): %d", length, c.at, got)
			}
			if got := r.Go(c.at, 0); got != c.want {
				t.Errorf("length %d, Go(%d, 0): %d", length, c.at, got)
			}
		}
	}
}

func TestF1AnyNumberCountsAsAPlace(t *testing.T) {
	for _, length := range lengths {
		r := counting(length)
		for i, at := range numbers(length) {
			want := placeOf(length, at)
			if got := r.Get(at); got != want+1000 {
				t.Fatalf("length %d, Get(%d): %d", length, at, got)
			}
			r.Set(at, -i)
			if got, again := r.Get(want), r.Get(at); got != -i || again != -i {
				t.Fatalf("length %d, Set(%d): %d, %d", length, at, got, again)
			}
			for _, by := range []int{1, 2, -1} {
				if near := placeOf(length, want, by); near != want && r.Get(near) != near+1000 {
					t.Fatalf("length %d, Set(%d): %d at %d", length, at, r.Get(near), near)
				}
			}
			r.Set(want, want+1000)
		}
	}
}

func TestF1GreatestAndLeastNumbers(t *testing.T) {
	for _, c := range []struct{ length, greatest, least int }{
		{1, 0, 0}, {2, 1, 0}, {3, 1, 1}, {4, 3, 0}, {5, 2, 2}, {7, 0, 6}, {8, 7, 0}, {10, 7, 2}, {1 << 20, 1<<20 - 1, 0},
	} {
		r := counting(c.length)
		if got := r.Get(math.MaxInt); got != c.greatest+1000 {
			t.Errorf("length %d, greatest: %d", c.length, got)
		}
		if got := r.Get(math.MinInt); got != c.least+1000 {
			t.Errorf("length %d, least: %d", c.length, got)
		}
		if got := r.Far(math.MinInt, math.MaxInt); got != farOf(c.length, c.least, c.greatest) {
			t.Errorf("length %d, Far from least to greatest: %d", c.length, got)
		}
	}
}

func TestF1SetChangesOnePlace(t *testing.T) {
	for _, length := range []int{1, 2, 3, 5, 8} {
		for at := -2 * length; at <= 2*length; at++ {
			r, want := counting(length), []int(nil)
			for i := range length {
				want = append(want, i+1000)
			}
			want[placeOf(length, at)] = 5
			r.Set(at, 5)
			if _, got := told(r, 0, length); !slices.Equal(got, want) || r.Len() != length {
				t.Fatalf("length %d, Set(%d): %v", length, at, got)
			}
			r.Set(at, 6)
			if got := r.Get(at); got != 6 {
				t.Fatalf("length %d, Set(%d) again: %d", length, at, got)
			}
		}
	}
}

func TestF1GoByPlaces(t *testing.T) {
	r := New(5, 'x')
	for _, c := range []struct{ at, by, want int }{
		{0, 0, 0}, {4, 0, 4}, {7, 0, 2}, {-1, 0, 4}, {-5, 0, 0}, // by none
		{0, 1, 1}, {3, 1, 4}, {4, 1, 0}, {3, 4, 2}, {1, 3, 4}, {9, 1, 0}, {-1, 1, 0}, {-2, 1, 4}, // forward
		{0, -1, 4}, {1, -1, 0}, {4, -4, 0}, {2, -3, 4}, {2, -4, 3}, {5, -1, 4}, {-1, -1, 3}, // back
		{2, 5, 2}, {2, -5, 2}, {0, 5, 0}, {0, -5, 0}, {4, 6, 0}, {0, -6, 4}, // once round
		{2, 500, 2}, {2, 501, 3}, {2, -501, 1}, {2, 5000000000000004, 1}, {2, -5000000000000004, 3}, // many times
		{math.MaxInt, 0, 2}, {math.MaxInt, 1, 3}, {math.MaxInt, math.MaxInt, 4}, {math.MaxInt, -1, 1},
		{math.MinInt, 0, 2}, {math.MinInt, -1, 1}, {math.MinInt, math.MinInt, 4}, {math.MinInt, 1, 3},
		{math.MaxInt, math.MinInt, 4}, {math.MinInt, math.MaxInt, 4}, {0, math.MaxInt, 2}, {0, math.MinInt, 2}, {4, math.MaxInt, 1}, {4, math.MinInt, 1},
	} {
		if got := r.Go(c.at, c.by); got != c.want {
			t.Errorf("Go(%d, %d): %d, want %d", c.at, c.by, got, c.want)
		}
	}
}

func TestF1FarFromPlaceToPlace(t *testing.T) {
	r := New(5, true)
	for _, c := range []struct{ from, to, want int }{
		{0, 0, 0}, {2, 2, 0}, {4, 4, 0}, {4, 9, 0}, {9, 4, 0}, {-1, 4, 0}, {-6, -1, 0}, // to itself
		{0, 1, 1}, {0, 4, 4}, {1, 3, 2}, {3, 4, 1}, {6, 3, 2}, {1, 8, 2}, // forward
		{1, 0, 4}, {4, 0, 1}, {3, 1, 3}, {4, 3, 4}, {2, 0, 3}, {-1, 0, 1}, {0, -1, 4}, {-1, -2, 4}, {5, -1, 4}, // and backward, that is, round
		{math.MaxInt, math.MaxInt, 0}, {math.MinInt, math.MinInt, 0}, {math.MaxInt, math.MinInt, 0}, {math.MinInt, math.MaxInt, 0},
		{0, math.MaxInt, 2}, {math.MaxInt, 0, 3}, {0, math.MinInt, 2}, {math.MinInt, 0, 3}, {math.MinInt, -1, 2}, {-1, math.MinInt, 3}, {-1, math.MaxInt, 3}, {math.MaxInt, -1, 2},
		{math.MaxInt - 1, math.MinInt, 1}, {math.MinInt + 1, math.MaxInt, 4},
	} {
		if got := r.Far(c.from, c.to); got != c.want {
			t.Errorf("Far(%d, %d): %d, want %d", c.from, c.to, got, c.want)
		}
	}
}

func TestF1WhoGoesAsFarAsItIsIsThere(t *testing.T) {
	for _, length := range lengths {
		r, ns := New(length, struct{}{}), numbers(length)
		for _, from := range ns {
			for _, to := range ns {
				if got, want := r.Go(from, to), placeOf(length, from, to); got != want {
					t.Fatalf("length %d, Go(%d, %d): %d, want %d", length, from, to, got, want)
				}
				far := r.Far(from, to)
				if want := farOf(length, from, to); far != want {
					t.Fatalf("length %d, Far(%d, %d): %d, want %d", length, from, to, far, want)
				}
				if got, want := r.Go(from, far), placeOf(length, to); got != want {
					t.Fatalf("length %d, from %d as far as %d: %d, want %d", length, from, to, got, want)
				}
				if got, want := r.Go(to, -far), placeOf(length, from); got != want {
					t.Fatalf("length %d, back from %d as far as %d: %d, want %d", length, to, from, got, want)
				}
			}
		}
	}
}

func TestF1SmallRingsAtEachPlace(t *testing.T) {
	for length := 1; length <= 9; length++ {
		r := counting(length)
		for at := -2*length - 1; at <= 2*length+1; at++ {
			for n := -2*length - 1; n <= 2*length+1; n++ {
				if got := r.Go(at, n); got != placeOf(length, at, n) {
					t.Fatalf("length %d, Go(%d, %d): %d", length, at, n, got)
				}
				if got := r.Far(at, n); got != farOf(length, at, n) {
					t.Fatalf("length %d, Far(%d, %d): %d", length, at, n, got)
				}
				tells(t, r, at, n)
			}
		}
	}
}

// tells asks a ring that counts for places.
func tells(t *testing.T, r *Ring[int], at, n int) {
	t.Helper()
	length := r.Len()
	places, values := told(r, at, n)
	if want := min(max(n, 0), length); len(places) != want {
		t.Fatalf("length %d, From(%d, %d): %d places, want %d", length, at, n, len(places), want)
	}
	for i, p := range places {
		if p != placeOf(length, at, i) || values[i] != p+1000 {
			t.Fatalf("length %d, From(%d, %d): %d, %d, place %d of them", length, at, n, p, values[i], i)
		}
	}
}

func TestF1FromTellsPlacesAndValues(t *testing.T) {
	r := counting(5)
	for _, c := range []struct {
		at, n int
		want  []int
	}{
		{0, 5, []int{0, 1, 2, 3, 4}}, {0, 1, []int{0}}, {4, 1, []int{4}}, {3, 2, []int{3, 4}}, {3, 3, []int{3, 4, 0}}, {3, 5, []int{3, 4, 0, 1, 2}},
		{-1, 2, []int{4, 0}}, {5, 2, []int{0, 1}}, {-5, 1, []int{0}}, {-6, 3, []int{4, 0, 1}}, {14, 2, []int{4, 0}},
		{0, 0, nil}, {3, 0, nil}, {-1, 0, nil}, {math.MaxInt, 0, nil}, // none
		{0, -1, nil}, {3, -1, nil}, {3, -5, nil}, {3, -6, nil}, {0, math.MinInt, nil}, {math.MinInt, math.MinInt, nil}, {math.MaxInt, math.MinInt + 1, nil},
		{0, 4, []int{0, 1, 2, 3}}, {2, 4, []int{2, 3, 4, 0}}, {2, 5, []int{2, 3, 4, 0, 1}}, // about the length
		{0, 6, []int{0, 1, 2, 3, 4}}, {4, 6, []int{4, 0, 1, 2, 3}}, {2, 10, []int{2, 3, 4, 0, 1}}, {3, 1 << 40, []int{3, 4, 0, 1, 2}}, {3, math.MaxInt, []int{3, 4, 0, 1, 2}},
		{math.MaxInt, 3, []int{2, 3, 4}}, {math.MaxInt, 5, []int{2, 3, 4, 0, 1}}, {math.MaxInt, math.MaxInt, []int{2, 3, 4, 0, 1}}, {math.MaxInt - 1, 2, []int{1, 2}},
		{math.MinInt, 3, []int{2, 3, 4}}, {math.MinInt, math.MaxInt, []int{2, 3, 4, 0, 1}}, {math.MinInt + 2, 3, []int{4, 0, 1}},
	} {
		places, values := told(r, c.at, c.n)
		if !slices.Equal(places, c.want) {
			t.Errorf("From(%d, %d): %v, want %v", c.at, c.n, places, c.want)
		}
		for i, p := range c.want {
			if i >= len(values) || values[i] != p+1000 {
				t.Errorf("From(%d, %d): values %v", c.at, c.n, values)
				break
			}
		}
	}
}

func TestF1FromOfAnyNumbers(t *testing.T) {
	for _, length := range lengths[:9] {
		r := counting(length)
		for _, at := range numbers(length) {
			for _, n := range []int{math.MinInt, -length, -1, 0, 1, 2, length - 1, length, length + 1, 2 * length, 1 << 32, math.MaxInt} {
				tells(t, r, at, n)
			}
		}
	}
	for _, length := range lengths[9:] {
		for _, at := range []int{0, -1, math.MaxInt, math.MinInt} {
			tells(t, counting(length), at, length+1)
		}
	}
}

func TestF1WhoStopsIsToldNoMore(t *testing.T) {
	r := counting(5)
	for stop := 1; stop <= 5; stop++ {
		var got []int
		r.From(3, 9)(func(p, v int) bool {
			if len(got) >= stop {
				t.Fatalf("told on behind %d", stop)
			}
			if v != p+1000 {
				t.Fatalf("value %d at %d", v, p)
			}
			got = append(got, p)
			return len(got) < stop
		})
		if want := []int{3, 4, 0, 1, 2}[:stop]; !slices.Equal(got, want) {
			t.Errorf("stopped at %d: %v", stop, got)
		}
	}
	seen := 0
	for p := range r.From(4, 5) {
		if seen++; p == 0 {
			break
		}
	}
	if seen != 2 {
		t.Errorf("broke off behind %d", seen)
	}
}

func TestF1PlacesMayBeToldAgain(t *testing.T) {
	r := counting(4)
	seq := r.From(-1, 3)
	for range seq {
		break
	}
	for range 2 { // also to one who stopped ahead
		var got []int
		for p := range seq {
			got = append(got, p)
		}
		if !slices.Equal(got, []int{3, 0, 1}) {
			t.Fatalf("told again: %v", got)
		}
	}
	pairs := 0
	for p := range seq {
		for q := range seq { // one within another
			if pairs++; p == q && r.Far(p, q) != 0 {
				t.Fatal(p, q)
			}
		}
	}
	if pairs != 9 {
		t.Errorf("pairs: %d", pairs)
	}
}

func TestF1ValuesAreThoseWhenTold(t *testing.T) {
	r := counting(5)
	seq := r.From(3, 5)
	r.Set(3, 1) // behind From, and ahead of the range
	var got []int
	for p, v := range seq {
		got = append(got, v)
		r.Set(p, 50)   // told already
		r.Set(p+1, -p) // told next, but behind the last one
		if p == 4 {
			r.Set(2, 99) // told last; but then it is set once more
			r.Set(0, 7)
		}
	}
	if want := []int{1, -3, 7, 0, -1}; !slices.Equal(got, want) {
		t.Errorf("told %v, want %v", got, want)
	}
	if _, after := told(r, 0, 5); !slices.Equal(after, []int{50, 50, 50, -2, 50}) {
		t.Errorf("behind the range: %v", after)
	}
	late := New(3, "a")
	names := late.From(0, 3)
	for round, want := range []string{"aaa", "axa", "yxa"} {
		text := ""
		for _, v := range names {
			text += v
		}
		if text != want {
			t.Errorf("round %d: %q", round, text)
		}
		late.Set(1-round, string(rune('x'+round)))
	}
}

// keeps asks that a ring of any type has its first value at each place, and another where it is set.
func keeps[T any](t *testing.T, name string, first, second T) {
	t.Helper()
	r := New(3, first)
	r.Set(-2, second)
	want := []T{first, second, first}
	for i := range 3 {
		if got := r.Get(i + 3); !reflect.DeepEqual(got, want[i]) {
			t.Errorf("%s, Get(%d): %v", name, i, got)
		}
	}
	places, values := told(r, 1, 3)
	if !slices.Equal(places, []int{1, 2, 0}) || !reflect.DeepEqual(values, []T{second, first, first}) {
		t.Errorf("%s, From: %v %v", name, places, values)
	}
	if r.Len() != 3 || r.Go(2, 2) != 1 || r.Far(2, 1) != 2 {
		t.Errorf("%s: %d places", name, r.Len())
	}
}

func TestF1ValuesOfManyTypes(t *testing.T) {
	type pair struct {
		id   int
		name string
	}
	a, b := 1, 2
	keeps(t, "int", 4, -4)
	keeps(t, "byte", byte(255), byte(0))
	keeps(t, "uint64", uint64(math.MaxUint64), uint64(0))
	keeps(t, "bool", true, false)
	keeps(t, "string", "", "text")
	keeps(t, "float", 0.5, math.Inf(1))
	keeps(t, "struct", pair{1, "one"}, pair{2, "two"})
	keeps(t, "array", [3]int{1, 2, 3}, [3]int{})
	keeps(t, "empty", struct{}{}, struct{}{})
	keeps(t, "pointer", &a, &b)
	keeps(t, "nil pointer", nil, &b)
	keeps(t, "slice", []int{1}, nil)
	keeps(t, "map", map[string]int{"a": 1}, map[string]int{})
	keeps(t, "error", errors.New("one"), error(nil))
	keeps(t, "any", any(7), any("seven"))
	keeps(t, "channel", make(chan int), nil)
	keeps(t, "ring", New(2, 'a'), New(3, 'b'))
}

func TestF1RingsHaveNothingToDoWithEachOther(t *testing.T) {
	a, b := New(4, 1), New(4, 1)
	c := New(6, "1")
	a.Set(2, 9)
	c.Set(2, "9")
	if b.Get(2) != 1 || a.Get(2) != 9 || c.Get(2) != "9" || c.Get(3) != "1" {
		t.Error(a.Get(2), b.Get(2), c.Get(2))
	}
	for range a.From(0, 4) {
		for p := range b.From(0, 4) {
			b.Set(p, 3)
		}
	}
	if _, got := told(a, 0, 4); !slices.Equal(got, []int{1, 1, 9, 1}) {
		t.Error(got)
	}
}

func TestF1AskingChangesNothing(t *testing.T) {
	for _, length := range []int{1, 2, 5, 64} {
		r := counting(length)
		_, want := told(r, 0, length)
		for range 2 {
			for _, n := range numbers(length) {
				if r.Get(n) != r.Get(n) || r.Go(n, 3) != r.Go(n, 3) || r.Far(n, 3) != r.Far(n, 3) || r.Len() != length {
					t.Fatalf("length %d, %d: other answers", length, n)
				}
				told(r, n, 3)
			}
		}
		if _, got := told(r, 0, length); !slices.Equal(got, want) {
			t.Fatalf("length %d: %v", length, got)
		}
	}
}

// TestF1AgainstAModel does many calls with a ring and with a list that is turned, so that what is asked is always its first item.
func TestF1AgainstAModel(t *testing.T) {
	state := uint64(88172645463325252)
	next := func() int {
		state ^= state << 13
		state ^= state >> 7
		state ^= state << 17
		return int(state)
	}
	for length := 1; length <= 40; length++ {
		r, list := New(length, "-"), slices.Repeat([]string{"-"}, length)
		for step := range 400 {
			at := next() >> (uint(next()) % 64)
			p := placeOf(length, at)
			turned := append(slices.Clone(list[p:]), list[:p]...)
			n := next() % (length + 3)
			if _, got := told(r, at, n); !slices.Equal(got, turned[:min(max(n, 0), length)]) {
				t.Fatalf("length %d, From(%d, %d): %v", length, at, n, got)
			}
			if got := r.Get(at); got != turned[0] {
				t.Fatalf("length %d, Get(%d): %q", length, at, got)
			}
			list[p] = strconv.Itoa(step)
			r.Set(at, strconv.Itoa(step))
		}
	}
}
