package tests

import (
	"slices"
	"strconv"
	"testing"

	"loop.example/pedlar/impl"
)

// wantShare says as which trips so many callers must begin.
func wantShare(t *testing.T, name string, seeds []string, n int, want ...impl.Trip) {
	t.Helper()
	got, ok := impl.ShareNew(name, seeds, n)
	wantTrips(t, "ShareNew of "+strconv.Itoa(n), got, ok, want)
}

func TestShareNewTold(t *testing.T) {
	wantShare(t, "a", nil, 1, impl.Trip{Name: "a"})
	wantShare(t, "abcdefgh", nil, 3, impl.Trip{Name: "abcdefgh"}, impl.Trip{Name: "abcdefgh"}, impl.Trip{Name: "abcdefgh"})
	seeds := []string{"//ef/", "//cd/x", "what", "//ab/a", "//cd/", "//ab/b", "//CD/", "//cd/x", "//zz/", "//cd/y"}
	seen := []string{"//ef/", "//cd/x", "//ab/a", "//cd/", "//ab/b", "//zz/", "//cd/y"}
	wantShare(t, "rover", seeds, 1, impl.Trip{
		Name:   "rover",
		Houses: []impl.House{newHouse("ef", "rover", "//ef/"), newHouse("cd", "rover", "//cd/x", "//cd/", "//cd/y"), newHouse("ab", "rover", "//ab/a", "//ab/b"), newHouse("zz", "rover", "//zz/")},
		Seen:   seen,
	})
	wantShare(t, "rover", seeds, 2, impl.Trip{
		Name:   "rover",
		Houses: []impl.House{newHouse("ef", "rover"), newHouse("cd", "rover"), newHouse("ab", "rover"), newHouse("zz", "rover", "//zz/")},
		Seen:   seen,
	}, impl.Trip{
		Name:   "rover",
		Houses: []impl.House{newHouse("ef", "rover", "//ef/"), newHouse("cd", "rover", "//cd/x", "//cd/", "//cd/y"), newHouse("ab", "rover", "//ab/a", "//ab/b")},
		Seen:   []string{"//ef/", "//cd/x", "//cd/", "//cd/y", "//ab/a", "//ab/b"},
	})
	wantShare(t, "rover", seeds, 3, impl.Trip{
		Name:   "rover",
		Houses: []impl.House{newHouse("ef", "rover"), newHouse("cd", "rover"), newHouse("ab", "rover", "//ab/a", "//ab/b"), newHouse("zz", "rover")},
		Seen:   seen,
	}, impl.Trip{
		Name:   "rover",
		Houses: []impl.House{newHouse("cd", "rover", "//cd/x", "//cd/", "//cd/y"), newHouse("zz", "rover", "//zz/")},
		Seen:   []string{"//cd/x", "//cd/", "//cd/y", "//zz/"},
	}, impl.Trip{
		Name:   "rover",
		Houses: []impl.House{newHouse("ef", "rover", "//ef/")},
		Seen:   []string{"//ef/"},
	})
}

func TestShareNewLimit(t *testing.T) {
	seeds := seenOf(impl.WorldMax + 1)
	full := seeds[:impl.WorldMax]
	first := impl.Trip{Name: "rover", Houses: []impl.House{newHouse("zz", "rover")}, Seen: full}
	second := impl.Trip{Name: "rover", Houses: []impl.House{newHouse("zz", "rover", full...)}, Seen: full}
	wantShare(t, "rover", full, 3, first, second, impl.Trip{Name: "rover"})
	for n := 1; n <= impl.ShareMax; n++ {
		for _, tooMany := range [][]string{seeds, slices.Repeat([]string{"//ab/"}, impl.WorldMax+1), slices.Repeat([]string{"what"}, impl.WorldMax+1)} {
			got, ok := impl.ShareNew("rover", tooMany, n)
			wantNoTrips(t, "ShareNew of too many seeds", got, ok)
		}
	}
}

func TestShareNewOfWrongInputs(t *testing.T) {
	for _, seeds := range [][]string{nil, {"//ab/"}, {"what"}, seenOf(impl.WorldMax)} {
		for _, n := range wrongMany {
			got, ok := impl.ShareNew("rover", seeds, n)
			wantNoTrips(t, "ShareNew of "+strconv.Itoa(n), got, ok)
		}
		for _, name := range wrongNames {
			for n := range impl.ShareMax + 2 {
				got, ok := impl.ShareNew(name, seeds, n)
				wantNoTrips(t, "ShareNew of "+name, got, ok)
			}
		}
	}
}

func TestShareNewIsTripNewThatTells(t *testing.T) {
	for _, c := range reachCases() {
		for n := 1; n <= impl.ShareMax; n++ {
			want := make([]impl.Trip, n)
			for i := range want {
				want[i].Name = c.name
			}
			want[0], _ = impl.TripNew(c.name, c.seeds)
			wantShare(t, c.name, c.seeds, n, hasTold(want, 0)...)
		}
	}
}

func TestP96AllCallersTogetherBeginWithWhatOneWouldEachAtItsOwnHouses(t *testing.T) {
	elsewhere := 0
	for _, c := range reachCases() {
		one, _ := impl.TripNew(c.name, c.seeds)
		for n := 1; n <= impl.ShareMax; n++ {
			trips, ok := impl.ShareNew(c.name, c.seeds, n)
			if !ok || len(trips) != n {
				t.Fatalf("ShareNew(%q, %q, %d) = %v, %v", c.name, c.seeds, n, trips, ok)
			}
			var want, got []string
			for _, house := range one.Houses {
				want = append(want, leftAt(one, house.Name)...)
			}
			for i, trip := range trips {
				if !impl.TripOk(trip) || trip.Name != c.name || callsOf(trips) != 0 {
					t.Errorf("ShareNew(%q, %q, %d) begins with %v", c.name, c.seeds, n, trip)
				}
				for _, house := range trip.Houses {
					left := leftAt(trip, house.Name)
					got = append(got, left...)
					if len(left) > 0 && ownerOf(house.Name, n) != i {
						t.Errorf("of %d caller %d begins with %q", n, i, left)
					}
					if len(left) > 0 && i > 0 {
						elsewhere++
					}
				}
			}
			slices.Sort(want)
			slices.Sort(got)
			if !slices.Equal(got, want) {
				t.Errorf("%d begin with %q together, one with %q", n, got, want)
			}
		}
	}
	if elsewhere < 1000 {
		t.Errorf("other callers than the first begin with %d houses", elsewhere)
	}
}
