package tests

import (
	"slices"
	"testing"

	"loop.example/pedlar/impl"
)

// roomy is a list with room behind its end, holding what is given last.
func roomy[T any](list []T, room T) []T {
	return append(slices.Clone(list), room, room, room)[:len(list)]
}

// tripWithRoom is a trip with room behind the end of each list.
func tripWithRoom(t impl.Trip) impl.Trip {
	t.Seen = roomy(t.Seen, "room")
	t.Looks = roomy(t.Looks, impl.Look{Addr: "room"})
	t.Houses = roomy(t.Houses, impl.House{Name: "room"})
	for i, house := range t.Houses {
		t.Houses[i].Group.Names = roomy(house.Group.Names, "room")
		t.Houses[i].Group.Rules = roomy(house.Group.Rules, impl.Rule{Path: "room"})
		t.Houses[i].Todo = roomy(house.Todo, impl.Item{Addr: "room"})
	}
	return t
}

// withAllRoom is a trip whose lists are as long as their memory.
func withAllRoom(t impl.Trip) impl.Trip {
	t.Seen = t.Seen[:cap(t.Seen)]
	t.Looks = t.Looks[:cap(t.Looks)]
	t.Houses = slices.Clone(t.Houses[:cap(t.Houses)])
	for i, house := range t.Houses {
		t.Houses[i].Group.Names = house.Group.Names[:cap(house.Group.Names)]
		t.Houses[i].Group.Rules = house.Group.Rules[:cap(house.Group.Rules)]
		t.Houses[i].Todo = house.Todo[:cap(house.Todo)]
	}
	return t
}

// fill writes one thing into all of a list, its spare room too.
func fill[T any](list []T, with T) {
	all := list[:cap(list)]
	for i := range all {
		all[i] = with
	}
}

// spoilTrip writes into all lists of a trip.
func spoilTrip(t impl.Trip) {
	spoil(t.Seen)
	fill(t.Looks, impl.Look{Addr: "spoilt"})
	for _, house := range t.Houses {
		spoilGroup(house.Group)
		fill(house.Todo, impl.Item{Addr: "spoilt"})
	}
	fill(t.Houses, impl.House{Name: "spoilt"})
}

func TestTripsLeaveWhatIsGiven(t *testing.T) {
	for i, s := range tripSteps() {
		if i%5 != 0 {
			continue
		}
		w, allPages := worldWithRoom(s.w)
		pagesBefore := slices.Clone(allPages)
		trip := tripWithRoom(s.before)
		before := copyTrip(withAllRoom(trip))
		impl.TripOk(trip)
		impl.TripNext(trip)
		impl.TripDone(trip)
		spoil(impl.TripLooked(trip))
		fill(impl.TripCalls(trip, s.ahead().Name), -1)
		got, _ := impl.TripStep(w, trip)
		spoilTrip(got)
		for _, steps := range []int{0, 1, mostCalls} {
			got, _ := impl.TripRun(w, trip, steps)
			spoilTrip(got)
		}
		if after := withAllRoom(trip); !sameTrip(after, before) || !slices.Equal(allPages, pagesBefore) {
			t.Fatalf("%v and %v were written into: %v and %v", before, pagesBefore, after, allPages)
		}
	}
}

func TestTripNewLeavesItsSeeds(t *testing.T) {
	seeds, all := withRoom("//ab/", "what", "//cd/x", "//ab/", "//ab/a")
	before := slices.Clone(all)
	got, _ := impl.TripNew("rover", seeds)
	spoilTrip(got)
	if !slices.Equal(all, before) {
		t.Errorf("%q were written into: %q", before, all)
	}
	wantNew(t, "rover", seeds, impl.Trip{
		Name:   "rover",
		Houses: []impl.House{newHouse("ab", "rover", "//ab/", "//ab/a"), newHouse("cd", "rover", "//cd/x")},
		Seen:   []string{"//ab/", "//cd/x", "//ab/a"},
	})
}

// wantApart says that no two lists of an answer may share memory: what is written into one is in no other.
func wantApart(t *testing.T, answer func() impl.Trip) {
	t.Helper()
	want := answer()
	for at := range want.Houses {
		got := answer()
		spoilGroup(got.Houses[at].Group)
		got.Houses[at].Group = want.Houses[at].Group
		fill(got.Houses[at].Todo, impl.Item{Addr: "spoilt"})
		got.Houses[at].Todo = want.Houses[at].Todo
		if !sameTrip(got, want) {
			t.Errorf("lists of house %d are shared: %v, not %v", at, got, want)
		}
	}
	got := answer()
	spoil(got.Seen)
	got.Seen = want.Seen
	fill(got.Looks, impl.Look{Addr: "spoilt"})
	got.Looks = want.Looks
	if !sameTrip(got, want) {
		t.Errorf("lists are shared: %v, not %v", got, want)
	}
}

func TestListsOfATripShareNothing(t *testing.T) {
	for i, path := range tripPaths() {
		if i%10 != 0 {
			continue
		}
		wantApart(t, func() impl.Trip {
			trip, _ := impl.TripNew(path.name, path.seeds)
			return trip
		})
		for _, steps := range []int{0, 1, 3, 8, mostCalls} {
			wantApart(t, func() impl.Trip {
				trip, _ := impl.TripRun(path.w, path.first(), steps)
				return trip
			})
		}
	}
}

func TestListsThatWereOneAreApartInAnAnswer(t *testing.T) {
	names := []string{"rover"}
	rules := []impl.Rule{bar("/b")}
	trip := changed(func(t *impl.Trip) {
		for i := range t.Houses {
			t.Houses[i].Known = true
			t.Houses[i].Group = impl.Group{Names: names, Rules: rules}
		}
	})
	for _, steps := range []int{0, 1} {
		wantApart(t, func() impl.Trip {
			got, _ := impl.TripRun(toldWorld(), trip, steps)
			return got
		})
	}
}
