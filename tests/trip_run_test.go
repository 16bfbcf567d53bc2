package tests

import (
	"slices"
	"strconv"
	"testing"

	"loop.example/pedlar/impl"
)

func TestTripRunTold(t *testing.T) {
	trip, _ := impl.TripNew("rover", []string{"//ab/"})
	got, ok := impl.TripRun(toldWorld(), trip, mostCalls)
	fail, page, lead := impl.GetFail, impl.GetPage, impl.GetLead
	wantTrip(t, "TripRun", got, ok, impl.Trip{
		Name: "rover",
		Now:  42,
		Houses: []impl.House{
			{Name: "ab", Ready: 52, Known: true, Group: impl.Group{Names: []string{"rover"}, Rules: []impl.Rule{bar("/b")}, Wait: 2}, Tries: 2},
			{Name: "cd", Ready: 28, Known: true, Group: impl.Group{Names: []string{"rover"}}},
		},
		Seen: []string{"//ab/", "//ab/a", "//ab/b", "//cd/x", "//ab/c", "//ab/a/b", "//ab/e"},
		Looks: []impl.Look{
			{Time: 0, Addr: "//ab/notice", Kind: fail},
			{Time: 3, Addr: "//ab/notice", Kind: fail},
			{Time: 8, Addr: "//ab/notice", Kind: page},
			{Time: 10, Addr: "//ab/", Kind: page},
			{Time: 10, Addr: "//cd/notice", Kind: lead},
			{Time: 11, Addr: "//cd/x", Kind: fail},
			{Time: 12, Addr: "//ab/a", Kind: lead},
			{Time: 14, Addr: "//ab/c", Kind: fail},
			{Time: 14, Addr: "//cd/x", Kind: fail},
			{Time: 18, Addr: "//ab/c", Kind: fail},
			{Time: 19, Addr: "//cd/x", Kind: fail},
			{Time: 24, Addr: "//ab/c", Kind: page},
			{Time: 26, Addr: "//ab/a/b", Kind: fail},
			{Time: 30, Addr: "//ab/e", Kind: fail},
			{Time: 34, Addr: "//ab/a/b", Kind: fail},
			{Time: 40, Addr: "//ab/e", Kind: lead},
			{Time: 42, Addr: "//ab/a/b", Kind: fail},
		},
	})
	if !impl.TripDone(got) || !slices.Equal(impl.TripLooked(got), []string{"//ab/", "//ab/a", "//ab/c", "//ab/e"}) {
		t.Errorf("%q were looked at", impl.TripLooked(got))
	}
}

func TestTripRunWhereTheNoticeFails(t *testing.T) {
	trip, _ := impl.TripNew("rover", []string{"//ef/", "//ef/notice"})
	got, ok := impl.TripRun(toldWorld(), trip, mostCalls)
	wantTrip(t, "TripRun", got, ok, impl.Trip{
		Name:   "rover",
		Now:    8,
		Houses: []impl.House{{Name: "ef", Ready: 17, Known: true, Group: impl.Group{Names: []string{"rover"}, Rules: []impl.Rule{bar("/")}}, Tries: 2}},
		Seen:   []string{"//ef/", "//ef/notice"},
		Looks:  []impl.Look{{Time: 0, Addr: "//ef/notice", Kind: impl.GetFail}, {Time: 3, Addr: "//ef/notice", Kind: impl.GetFail}, {Time: 8, Addr: "//ef/notice", Kind: impl.GetFail}},
	})
	if !impl.TripDone(got) || len(impl.TripLooked(got)) != 0 {
		t.Errorf("%q were looked at", impl.TripLooked(got))
	}
}

func TestTripRunWhereANoticeIsLookedAtToo(t *testing.T) {
	w := []impl.Page{{Addr: "//ab/notice", Text: "caller *\nwait 3\n<a>", Fails: 1}, {Addr: "//ab/a", Lead: "//ab/notice"}}
	trip, _ := impl.TripNew("rover", []string{"//ab/notice"})
	got, ok := impl.TripRun(w, trip, mostCalls)
	wantTrip(t, "TripRun", got, ok, impl.Trip{
		Name:   "rover",
		Now:    14,
		Houses: []impl.House{{Name: "ab", Ready: 17, Known: true, Group: impl.Group{Names: []string{"rover"}, Wait: 3}, Tries: 1}},
		Seen:   []string{"//ab/notice", "//ab/a"},
		Looks: []impl.Look{
			{Time: 0, Addr: "//ab/notice", Kind: impl.GetFail},
			{Time: 3, Addr: "//ab/notice", Kind: impl.GetPage},
			{Time: 6, Addr: "//ab/notice", Kind: impl.GetFail},
			{Time: 11, Addr: "//ab/notice", Kind: impl.GetPage},
			{Time: 14, Addr: "//ab/a", Kind: impl.GetLead},
		},
	})
	if !impl.TripDone(got) || !slices.Equal(impl.TripLooked(got), []string{"//ab/notice", "//ab/a"}) {
		t.Errorf("%q were looked at", impl.TripLooked(got))
	}
}

func TestTripRunLimit(t *testing.T) {
	trip, _ := impl.TripNew("rover", []string{"//ab/"})
	for _, steps := range []int{-1, mostCalls + 1, -1 << 63, 1<<63 - 1} {
		got, ok := impl.TripRun(toldWorld(), trip, steps)
		wantNoTrip(t, "TripRun of "+strconv.Itoa(steps), got, ok)
		got, ok = impl.TripRun(nil, impl.Trip{Name: "rover"}, steps)
		wantNoTrip(t, "TripRun of "+strconv.Itoa(steps), got, ok)
	}
	got, ok := impl.TripRun(toldWorld(), trip, 0)
	wantTrip(t, "TripRun of none", got, ok, trip)
	got, ok = impl.TripRun(nil, impl.Trip{Name: "rover"}, mostCalls)
	wantTrip(t, "TripRun of nothing", got, ok, impl.Trip{Name: "rover"})
}

func TestP70CallsAreMadeOneBehindTheOtherCutAnywhere(t *testing.T) {
	d := &dice{at: 11}
	for _, path := range tripPaths() {
		calls := len(path.trips) - 1
		whole, ok := impl.TripRun(path.w, path.first(), mostCalls)
		wantTrip(t, "TripRun of all", whole, ok, path.last())
		for _, cut := range []int{0, d.roll(calls + 1), d.roll(calls + 1), calls} {
			ahead, ok := impl.TripRun(path.w, path.first(), cut)
			wantTrip(t, "TripRun of "+strconv.Itoa(cut), ahead, ok, path.trips[cut])
			behind, ok := impl.TripRun(path.w, ahead, calls-cut)
			wantTrip(t, "TripRun behind "+strconv.Itoa(cut), behind, ok, whole)
		}
	}
}

func TestP71TripRunIsOkItsCallsInOrderOfTimeAndNotTooMany(t *testing.T) {
	longest := 0
	for _, path := range slices.Concat(tripPaths(), oddTrips()) {
		for _, steps := range []int{0, 1, 2, 5, 17, mostCalls} {
			got, ok := impl.TripRun(path.w, path.first(), steps)
			if !ok || !impl.TripOk(got) {
				t.Fatalf("TripRun of %v is %v, %v", path.first(), got, ok)
			}
			calls := len(path.first().Looks)
			if !slices.Equal(got.Looks[:calls], path.first().Looks) || len(got.Looks) > calls+steps {
				t.Errorf("TripRun of %v by %d is %v", path.first(), steps, got)
			}
			if !slices.IsSortedFunc(got.Looks, func(a, b impl.Look) int { return a.Time - b.Time }) {
				t.Errorf("calls of %v are not in order", got)
			}
			if _, _, left := impl.TripNext(got); left && len(got.Looks) != calls+steps {
				t.Errorf("TripRun of %v by %d has %d calls alone", path.first(), steps, len(got.Looks)-calls)
			}
			longest = max(longest, len(got.Looks))
		}
	}
	if longest < 80 {
		t.Errorf("the longest trip has %d calls", longest)
	}
}

func TestP72TripStepIsTripRunOfOneOrNothing(t *testing.T) {
	for _, s := range tripSteps() {
		got, ok := impl.TripRun(s.w, s.before, 1)
		wantTrip(t, "TripRun of one", got, ok, s.after)
	}
	for _, path := range tripPaths() {
		got, ok := impl.TripStep(path.w, path.last())
		wantNoTrip(t, "TripStep of what is done", got, ok)
		got, ok = impl.TripRun(path.w, path.last(), 1)
		wantTrip(t, "TripRun of what is done", got, ok, path.last())
	}
}

func TestP73TripDoneIsThatNothingIsLeft(t *testing.T) {
	all := slices.Clone(tripPaths())
	for what, trip := range edgeTrips() {
		all = append(all, tripPath{trips: []impl.Trip{trip}, reachCase: reachCase{name: what}})
	}
	done, under := 0, 0
	for _, path := range all {
		for _, trip := range path.trips {
			left := slices.ContainsFunc(trip.Houses, func(house impl.House) bool { return len(house.Todo) > 0 })
			if impl.TripDone(trip) == left {
				t.Errorf("%v is done: %v", trip, !left)
			}
			if left {
				under++
				continue
			}
			done++
			if _, _, ok := impl.TripNext(trip); ok {
				t.Errorf("%v is done, but there is a TripNext", trip)
			}
		}
	}
	if min(done, under) < 1000 {
		t.Errorf("%d are done, %d are not", done, under)
	}
	late := changed(func(t *impl.Trip) { t.Houses[0].Ready, t.Houses[1].Ready = lastReady, lastReady })
	if impl.TripDone(late) {
		t.Errorf("%v is done", late)
	}
}

func TestP88AShorterTripHasTheFirstCallsOfALongerOne(t *testing.T) {
	for _, path := range tripPaths() {
		all := path.last().Looks
		for _, steps := range []int{0, 1, 3, 8, 20, len(all)} {
			got, ok := impl.TripRun(path.w, path.first(), steps)
			if want := all[:min(steps, len(all))]; !ok || !slices.Equal(got.Looks, want) {
				t.Errorf("TripRun of %v by %d has the calls %v, not %v", path.first(), steps, got.Looks, want)
			}
		}
	}
}

func TestP90IfATripIsDoneNothingMoreIsDone(t *testing.T) {
	for _, path := range tripPaths() {
		if !impl.TripDone(path.last()) {
			t.Fatalf("%v is not done", path.last())
		}
		for _, w := range [][]impl.Page{path.w, nil, toldWorld()} {
			got, ok := impl.TripStep(w, path.last())
			wantNoTrip(t, "TripStep of what is done", got, ok)
			for _, steps := range []int{0, 1, mostCalls} {
				got, ok := impl.TripRun(w, path.last(), steps)
				wantTrip(t, "TripRun of what is done", got, ok, path.last())
			}
		}
	}
}
