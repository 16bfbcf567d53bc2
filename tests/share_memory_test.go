package tests

import (
	"slices"
	"testing"

	"loop.example/pedlar/impl"
)

// tripsWithRoom is trips with room behind the end of each list, and the list itself with its room.
func tripsWithRoom(trips []impl.Trip) ([]impl.Trip, []impl.Trip) {
	all := append(slices.Clone(trips), impl.Trip{Name: "room"}, impl.Trip{Name: "room"})
	for i, trip := range trips {
		all[i] = tripWithRoom(trip)
	}
	return all[:len(trips)], all
}

// withAllRooms is a copy of trips whose lists are as long as their memory.
func withAllRooms(trips []impl.Trip) []impl.Trip {
	trips = slices.Clone(trips)
	for i, trip := range trips {
		trips[i] = withAllRoom(trip)
	}
	return copyTrips(trips)
}

// spoilTrips writes into all lists of trips.
func spoilTrips(trips []impl.Trip) {
	for _, trip := range trips {
		spoilTrip(trip)
	}
	fill(trips, impl.Trip{Name: "spoilt"})
}

func TestSharesLeaveWhatIsGiven(t *testing.T) {
	for i, r := range shareRounds() {
		if i%5 != 0 {
			continue
		}
		w, allPages := worldWithRoom(r.w)
		pagesBefore := slices.Clone(allPages)
		trips, all := tripsWithRoom(r.before)
		before := withAllRooms(all)
		impl.ShareDone(trips)
		spoil(impl.ShareLooked(trips))
		for _, rounds := range []int{0, 1, mostRounds} {
			got, _ := impl.ShareRun(w, trips, rounds)
			spoilTrips(got)
		}
		if after := withAllRooms(all); !sameTrips(after, before) || !slices.Equal(allPages, pagesBefore) {
			t.Fatalf("%v and %v were written into: %v and %v", before, pagesBefore, after, allPages)
		}
	}
}

func TestShareNewLeavesItsSeeds(t *testing.T) {
	for n := 1; n <= impl.ShareMax; n++ {
		seeds, all := withRoom("//ab/", "what", "//cd/x", "//ab/", "//ab/a", "//ef/")
		before := slices.Clone(all)
		want, _ := impl.ShareNew("rover", seeds, n)
		got, _ := impl.ShareNew("rover", seeds, n)
		spoilTrips(got)
		if !slices.Equal(all, before) {
			t.Errorf("%q were written into: %q", before, all)
		}
		wantShare(t, "rover", seeds, n, want...)
	}
}

// wantAllApart says that no two lists of an answer may share memory, of one trip or of two.
func wantAllApart(t *testing.T, answer func() []impl.Trip) {
	t.Helper()
	want := answer()
	for i := range want {
		wantApart(t, func() impl.Trip { return answer()[i] })
		got := answer()
		spoilTrip(got[i])
		got[i] = want[i]
		if !sameTrips(got, want) {
			t.Errorf("lists of %d are shared: %v, not %v", i, got, want)
		}
	}
}

func TestListsOfTripsShareNothing(t *testing.T) {
	for i, path := range sharePaths() {
		if i%10 != 0 {
			continue
		}
		wantAllApart(t, func() []impl.Trip {
			trips, _ := impl.ShareNew(path.name, path.seeds, len(path.first()))
			return trips
		})
		for _, rounds := range []int{0, 1, 3, 8, mostRounds} {
			wantAllApart(t, func() []impl.Trip {
				trips, _ := impl.ShareRun(path.w, path.first(), rounds)
				return trips
			})
		}
	}
}

func TestTripsThatWereOneAreApartInAnAnswer(t *testing.T) {
	seen := []string{"//ab/", "//zz/", "//cd/", "//ab/a"}
	houses := []impl.House{{Name: "ab", Known: true, Group: impl.Group{Names: []string{"rover"}, Rules: []impl.Rule{bar("/b")}}}, newHouse("zz", "rover")}
	one := impl.Trip{Name: "rover", Houses: houses, Seen: seen, Looks: []impl.Look{{Addr: "//ab/"}}}
	for _, rounds := range []int{0, 1} {
		wantAllApart(t, func() []impl.Trip {
			got, _ := impl.ShareRun(toldWorld(), []impl.Trip{one, one, one}, rounds)
			return got
		})
	}
}

func TestNothingIsKeptOfShares(t *testing.T) {
	for i, path := range sharePaths() {
		if i%20 != 0 {
			continue
		}
		want := copyTrips(path.last())
		for range 5 {
			got, ok := impl.ShareRun(path.w, path.first(), mostRounds)
			wantTrips(t, "ShareRun again", got, ok, want)
			spoilTrips(got)
		}
	}
}
