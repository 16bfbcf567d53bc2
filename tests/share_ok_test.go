package tests

import (
	"slices"
	"strconv"
	"testing"

	"loop.example/pedlar/impl"
)

// edgeShares are such trips that meet a limit each, or that no rounds lead to.
func edgeShares() map[string][]impl.Trip {
	all := map[string][]impl.Trip{
		"as told":                      toldShare(),
		"one of them":                  toldShare()[:1],
		"names alone":                  {{Name: "a"}, {Name: "a"}, {Name: "a"}},
		"a house of all":               changedShare(func(trips []impl.Trip) { trips[2].Houses = append(trips[2].Houses, newHouse("ab", "rover")) }),
		"another one's house is known": changedShare(func(trips []impl.Trip) { trips[0].Houses[1].Known = true }),
		"calls at another one's":       changedShare(func(trips []impl.Trip) { trips[1].Looks[1].Addr = "//ab/" }),
		"one is done":                  changedShare(func(trips []impl.Trip) { trips[1].Houses[0].Todo = nil }),
		"all are done":                 doneShare(),
	}
	for what, trip := range edgeTrips() {
		all[what+", alone"] = []impl.Trip{trip}
	}
	return all
}

// doneShare is such trips that are done, and have looked at something each.
func doneShare() []impl.Trip {
	return changedShare(func(trips []impl.Trip) {
		for i := range trips {
			trips[i].Houses[0].Todo = nil
		}
		trips[1].Looks[1].Kind = impl.GetPage
		trips[2].Looks = []impl.Look{{Addr: "//ef/notice"}, {Addr: "//ef/"}}
	})
}

// wrongShares are trips that are not such, for one reason each.
func wrongShares() map[string][]impl.Trip {
	rename := func(trips []impl.Trip, i int) []impl.Trip {
		nameAll(&trips[i], "scout")
		return trips
	}
	all := map[string][]impl.Trip{
		"none":             nil,
		"none, but a list": {},
		"one too many":     append(doneShare(), impl.Trip{Name: "rover"}),
		"far too many":     slices.Repeat([]impl.Trip{{Name: "rover"}}, 100),
		"two of the told":  firstTwo(),
	}
	for i := range impl.ShareMax {
		at := strconv.Itoa(i)
		all["another name at "+at] = rename(doneShare(), i)
		all["another name under way at "+at] = rename(toldShare(), i)
		for what, wrong := range wrongTrips() {
			trips := doneShare()
			trips[i] = wrong
			all[what+", at "+at] = trips
		}
		for to, addr := range []string{"//ab/z", "//cd/z", "//ef/z"} {
			if to != i {
				trips := doneShare()
				trips[i] = hears(trips[i], []string{addr})
				all[addr+" is left at "+at] = trips
			}
		}
	}
	return all
}

// firstTwo is two trips with something left at a house that of three would be the first one's, but of two is not.
func firstTwo() []impl.Trip {
	trips := doneShare()[:2]
	trips[0].Houses[0].Todo = []impl.Item{{Addr: "//ab/c"}}
	return trips
}

func TestSuchTripsAtTheLimits(t *testing.T) {
	for what, trips := range edgeShares() {
		got, ok := impl.ShareRun(toldWorld(), trips, 0)
		wantTrips(t, what, got, ok, trips)
		var looked []string
		done := true
		for _, trip := range trips {
			looked = append(looked, impl.TripLooked(trip)...)
			done = done && impl.TripDone(trip)
		}
		if got := impl.ShareLooked(trips); !slices.Equal(got, looked) {
			t.Errorf("%q: ShareLooked is %q, not %q", what, got, looked)
		}
		if impl.ShareDone(trips) != done {
			t.Errorf("%q: they are done: %v", what, !done)
		}
	}
	if looked := impl.ShareLooked(doneShare()); !impl.ShareDone(doneShare()) || len(looked) != 3 {
		t.Errorf("%v have looked at %q", doneShare(), looked)
	}
}

func TestTripsThatAreNotSuchAreNothing(t *testing.T) {
	for what, trips := range wrongShares() {
		for _, rounds := range []int{0, 1, mostRounds} {
			got, ok := impl.ShareRun(toldWorld(), trips, rounds)
			wantNoTrips(t, what, got, ok)
		}
		if impl.ShareDone(trips) {
			t.Errorf("%q: they are done", what)
		}
		if looked := impl.ShareLooked(trips); len(looked) != 0 {
			t.Errorf("%q: ShareLooked is %q", what, looked)
		}
	}
}

func TestShareRunOfWrongWorldsIsNothing(t *testing.T) {
	for _, w := range wrongWorlds() {
		for what, trips := range edgeShares() {
			for _, rounds := range []int{0, 1, mostRounds} {
				got, ok := impl.ShareRun(w, trips, rounds)
				wantNoTrips(t, what, got, ok)
			}
		}
	}
}
