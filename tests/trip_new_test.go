package tests

import (
	"slices"
	"testing"

	"loop.example/pedlar/impl"
)

// wantNew says as which trip one must begin.
func wantNew(t *testing.T, name string, seeds []string, want impl.Trip) {
	t.Helper()
	got, ok := impl.TripNew(name, seeds)
	wantTrip(t, "TripNew of "+name, got, ok, want)
}

// newHouse is a house of which nothing is known, with such addresses left.
func newHouse(name, caller string, addrs ...string) impl.House {
	house := impl.House{Name: name, Group: impl.Group{Names: []string{caller}}}
	for _, addr := range addrs {
		house.Todo = append(house.Todo, impl.Item{Addr: addr})
	}
	return house
}

func TestTripNewTold(t *testing.T) {
	wantNew(t, "a", nil, impl.Trip{Name: "a"})
	wantNew(t, "abcdefgh", []string{"//ab/"}, impl.Trip{
		Name:   "abcdefgh",
		Houses: []impl.House{newHouse("ab", "abcdefgh", "//ab/")},
		Seen:   []string{"//ab/"},
	})
	wantNew(t, "rover", []string{"//cd/x", "what", "//ab/notice", "//cd/", "//cd/x", "//CD/", "", "//ab/?"}, impl.Trip{
		Name:   "rover",
		Houses: []impl.House{newHouse("cd", "rover", "//cd/x", "//cd/"), newHouse("ab", "rover", "//ab/notice", "//ab/?")},
		Seen:   []string{"//cd/x", "//ab/notice", "//cd/", "//ab/?"},
	})
	wantNew(t, "rover", notAddresses[:impl.WorldMax], impl.Trip{Name: "rover"})
	wantNew(t, "rover", notAddresses[len(notAddresses)-impl.WorldMax:], impl.Trip{Name: "rover"})
}

func TestTripNewLimit(t *testing.T) {
	seeds := seenOf(impl.WorldMax + 1)
	full := seeds[:impl.WorldMax]
	wantNew(t, "rover", full, impl.Trip{Name: "rover", Houses: []impl.House{newHouse("zz", "rover", full...)}, Seen: full})
	for _, tooMany := range [][]string{seeds, slices.Repeat([]string{"//ab/"}, impl.WorldMax+1), slices.Repeat([]string{"what"}, impl.WorldMax+1), slices.Repeat(seeds, 40)} {
		got, ok := impl.TripNew("rover", tooMany)
		wantNoTrip(t, "TripNew of too many seeds", got, ok)
	}
}

func TestTripNewOfWrongNames(t *testing.T) {
	for _, name := range wrongNames {
		for _, seeds := range [][]string{nil, {"//ab/"}, seenOf(impl.WorldMax)} {
			got, ok := impl.TripNew(name, seeds)
			wantNoTrip(t, "TripNew of "+name, got, ok)
		}
	}
}

func TestP63ATripBeginsOkWithAllSeedsLeftThatAreAddresses(t *testing.T) {
	for _, c := range reachCases() {
		got, ok := impl.TripNew(c.name, c.seeds)
		if !ok || !impl.TripOk(got) || got.Name != c.name || got.Now != 0 || len(got.Looks) != 0 {
			t.Fatalf("TripNew(%q, %q) = %v, %v", c.name, c.seeds, got, ok)
		}
		var seen []string
		left := map[string][]string{}
		var houses []impl.House
		for _, seed := range c.seeds {
			if isAddress(seed) && !slices.Contains(seen, seed) {
				seen = append(seen, seed)
				left[houseOf(seed)] = append(left[houseOf(seed)], seed)
			}
		}
		for _, seed := range seen {
			if house := houseOf(seed); left[house] != nil {
				houses = append(houses, newHouse(house, c.name, left[house]...))
				left[house] = nil
			}
		}
		wantTrip(t, "TripNew", got, ok, impl.Trip{Name: c.name, Houses: houses, Seen: seen})
	}
}
