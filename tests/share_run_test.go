package tests

import (
	"slices"
	"strconv"
	"testing"

	"loop.example/pedlar/impl"
)

// wantRun says which trips must come out of so many rounds.
func wantRun(t *testing.T, w []impl.Page, trips []impl.Trip, rounds int, want []impl.Trip) {
	t.Helper()
	got, ok := impl.ShareRun(w, trips, rounds)
	wantTrips(t, "ShareRun of "+strconv.Itoa(rounds), got, ok, want)
}

// known is a house that was called at, and has nothing left.
func known(name string, ready, wait int, rules ...impl.Rule) impl.House {
	return impl.House{Name: name, Ready: ready, Known: true, Group: impl.Group{Names: []string{"rover"}, Rules: rules, Wait: wait}}
}

func TestShareRunTold(t *testing.T) {
	w := []impl.Page{
		{Addr: "//ab/notice", Text: "caller *\nbar /b\n"},
		{Addr: "//ab/", Text: "<//cd/x><a><//e/><//cd/x>"},
		{Addr: "//cd/notice", Text: "caller rover\nwait 3\n"},
		{Addr: "//cd/x", Text: "<//ab/b><y><//ab/c><//ab/a>"},
	}
	trips, _ := impl.ShareNew("rover", []string{"//ab/"}, 3)
	page, none := impl.GetPage, impl.GetNone
	first := impl.Trip{
		Name:   "rover",
		Now:    3,
		Houses: []impl.House{known("ab", 4, 0, bar("/b")), newHouse("cd", "rover"), newHouse("e", "rover")},
		Seen:   []string{"//ab/", "//cd/x", "//ab/a", "//e/", "//ab/b", "//ab/c"},
		Looks:  []impl.Look{{Time: 0, Addr: "//ab/notice", Kind: page}, {Time: 1, Addr: "//ab/", Kind: page}, {Time: 2, Addr: "//ab/a", Kind: none}, {Time: 3, Addr: "//ab/c", Kind: none}},
	}
	second := impl.Trip{
		Name:   "rover",
		Now:    6,
		Houses: []impl.House{known("cd", 9, 3), newHouse("ab", "rover")},
		Seen:   []string{"//cd/x", "//ab/b", "//cd/y", "//ab/c", "//ab/a"},
		Looks:  []impl.Look{{Time: 0, Addr: "//cd/notice", Kind: page}, {Time: 3, Addr: "//cd/x", Kind: page}, {Time: 6, Addr: "//cd/y", Kind: none}},
	}
	third := impl.Trip{
		Name:   "rover",
		Now:    1,
		Houses: []impl.House{known("e", 2, 0)},
		Seen:   []string{"//e/"},
		Looks:  []impl.Look{{Time: 0, Addr: "//e/notice", Kind: none}, {Time: 1, Addr: "//e/", Kind: none}},
	}
	want := []impl.Trip{first, second, third}
	for _, rounds := range []int{4, 5, mostRounds} {
		wantRun(t, w, trips, rounds, want)
	}
	if got := impl.ShareLooked(want); !impl.ShareDone(want) || !slices.Equal(got, []string{"//ab/", "//ab/a", "//ab/c", "//cd/x", "//cd/y", "//e/"}) {
		t.Errorf("%q were looked at", got)
	}
}

func TestWhatIsToldInARoundIsCalledAtInIt(t *testing.T) {
	w := []impl.Page{{Addr: "//ab/a", Lead: "//cd/a"}, {Addr: "//cd/a", Lead: "//ef/a"}, {Addr: "//ef/a", Lead: "//ab/z"}}
	trips := changedShare(func(trips []impl.Trip) {
		trips[0].Houses[0].Todo = trips[0].Houses[0].Todo[1:]
		trips[1].Houses[0].Todo = nil
		trips[2].Houses[0].Todo = nil
		trips[2].Houses[0].Known = true
	})
	got, ok := impl.ShareRun(w, trips, 1)
	if !ok || len(got) != 3 {
		t.Fatalf("ShareRun is %v, %v", got, ok)
	}
	for i, want := range []impl.Look{{Time: 16, Addr: "//ab/a", Kind: impl.GetLead}, {Time: 5, Addr: "//cd/a", Kind: impl.GetLead}, {Time: 0, Addr: "//ef/a", Kind: impl.GetLead}} {
		if looks := got[i].Looks; len(looks) == 0 || looks[len(looks)-1] != want {
			t.Errorf("the calls of %d are %v, the last one not %v", i, looks, want)
		}
	}
	if left := leftAt(got[0], "ab"); !slices.Equal(left, []string{"//ab/z"}) {
		t.Errorf("%q are left", left)
	}
}

func TestOneTellsHouseByHouse(t *testing.T) {
	w := []impl.Page{{Addr: "//ab/c", Text: "<//e/q><//cd/z><//ef/r><//cd/b><//zz/a><//e/p><//cd/y><//ef/><//cd/w>"}}
	trips := changedShare(func(trips []impl.Trip) {
		for i := range trips[1:] {
			trips[i+1].Houses[0].Ready = lastReady
		}
	})
	want := copyTrips(trips)
	want[0].Now = 16
	want[0].Houses[0].Ready = 18
	want[0].Houses[0].Todo = want[0].Houses[0].Todo[1:]
	want[0].Houses = append(want[0].Houses, newHouse("e", "rover"), newHouse("zz", "rover"))
	want[0].Seen = append(want[0].Seen, "//e/q", "//cd/z", "//ef/r", "//cd/b", "//zz/a", "//e/p", "//cd/y", "//cd/w")
	want[0].Looks = append(want[0].Looks, impl.Look{Time: 16, Addr: "//ab/c", Kind: impl.GetPage})
	want[1].Houses[0].Todo = append(want[1].Houses[0].Todo, impl.Item{Addr: "//cd/z"}, impl.Item{Addr: "//cd/w"})
	want[1].Seen = append(want[1].Seen, "//cd/z", "//cd/w", "//zz/a")
	want[1].Houses = append(want[1].Houses, newHouse("zz", "rover", "//zz/a"))
	want[2].Houses[0].Todo = append(want[2].Houses[0].Todo, impl.Item{Addr: "//ef/r"})
	want[2].Seen = append(want[2].Seen, "//ef/r", "//e/q", "//e/p")
	want[2].Houses = append(want[2].Houses, newHouse("e", "rover", "//e/q", "//e/p"))
	// What they heard of is called for at once.
	want[1].Now = 3
	want[1].Houses[1].Known, want[1].Houses[1].Ready = true, 4
	want[1].Looks = append(want[1].Looks, impl.Look{Time: 3, Addr: "//zz/notice"})
	want[2].Houses[1].Known, want[2].Houses[1].Ready = true, 1
	want[2].Looks = append(want[2].Looks, impl.Look{Time: 0, Addr: "//e/notice"})
	wantRun(t, w, trips, 1, want)
}

func TestWhoIsToldHearsOfNotTooMany(t *testing.T) {
	w := []impl.Page{{Addr: "//ab/c", Text: "<//cd/b><//cd/k><//cd/x><//zz/k><//cd/m>"}}
	for seen := impl.TripMany - 4; seen <= impl.TripMany; seen++ {
		trips := changedShare(func(trips []impl.Trip) {
			trips[1].Seen = append(trips[1].Seen, seenOf(seen-len(trips[1].Seen))...)
			trips[1].Houses[0].Ready = lastReady
		})
		heard := []string{"//cd/k", "//cd/m", "//zz/k"}
		heard = heard[:min(impl.TripMany-seen, len(heard))]
		got, ok := impl.ShareRun(w, trips, 1)
		if !ok || len(got) != 3 || !slices.Equal(got[1].Seen, slices.Concat(trips[1].Seen, heard)) {
			t.Fatalf("behind %d it is %v, %v", seen, got, ok)
		}
		if left := leftAt(got[1], "cd"); !slices.Equal(left, slices.Concat([]string{"//cd/x", "//cd/y"}, heard[:min(2, len(heard))])) {
			t.Errorf("behind %d %q are left", seen, left)
		}
		for _, house := range []string{"cd", "zz"} {
			if left := leftAt(got[0], house); len(left) != 0 {
				t.Errorf("behind %d %q are left to who told", seen, left)
			}
		}
	}
}

func TestShareRunAtTheLastCallAndTheLastTime(t *testing.T) {
	trips := changedShare(func(trips []impl.Trip) {
		trips[0].Looks = slices.Repeat(trips[0].Looks[4:], mostCalls)
		trips[1].Houses[0].Ready = impl.TripTime + 1
	})
	for rounds, calls := range map[int]int{1: 1, mostRounds: 2} {
		got, ok := impl.ShareRun(nil, trips, rounds)
		if !ok || len(got) != 3 || !sameTrips(got[:2], trips[:2]) || len(got[2].Looks) != calls || impl.ShareDone(got) {
			t.Errorf("ShareRun is %v, %v", got, ok)
		}
	}
	trips[0].Looks = trips[0].Looks[1:]
	trips[1].Houses[0].Ready = impl.TripTime
	got, ok := impl.ShareRun(nil, trips, mostRounds)
	if !ok || len(got) != 3 || len(got[0].Looks) != mostCalls || got[1].Now != impl.TripTime || len(got[1].Looks) != 3 || len(leftAt(got[1], "cd")) != 1 {
		t.Errorf("ShareRun is %v, %v", got, ok)
	}
}

func TestShareRunLimit(t *testing.T) {
	for n := 1; n <= impl.ShareMax; n++ {
		trips, _ := impl.ShareNew("rover", []string{"//ab/", "//cd/x", "//ef/"}, n)
		for _, rounds := range []int{-1, mostRounds + 1, -1 << 63, 1<<63 - 1} {
			got, ok := impl.ShareRun(toldWorld(), trips, rounds)
			wantNoTrips(t, "ShareRun of "+strconv.Itoa(rounds), got, ok)
		}
		wantRun(t, toldWorld(), trips, 0, trips)
		got, ok := impl.ShareRun(toldWorld(), trips, mostRounds)
		if !ok || !impl.ShareDone(got) {
			t.Errorf("ShareRun of %d callers is %v, %v", n, got, ok)
		}
	}
}

func TestARoundIsACallOfEachThatTells(t *testing.T) {
	told, barred, again, lost := 0, 0, 0, 0
	for _, r := range shareRounds() {
		want := copyTrips(r.before)
		for i := range want {
			next, ok := impl.TripStep(r.w, want[i])
			if !ok {
				continue
			}
			want[i] = next
			for _, house := range next.Houses {
				to := ownerOf(house.Name, len(want))
				if to == i {
					continue
				}
				theirs, _ := houseIn(want[to], house.Name)
				for _, item := range house.Todo {
					switch {
					case slices.Contains(want[to].Seen, item.Addr):
						again++
					case isCrowded(want[to]):
						lost++
					case barredAt(theirs, item.Addr):
						barred++
					default:
						told++
					}
				}
			}
			want = hasTold(want, i)
		}
		wantTrips(t, "ShareRun of one", r.after, true, want)
	}
	if told < 500 || barred < 50 || again < 50 || lost < 2 {
		t.Errorf("of %d one is told, of %d that are barred, of %d again, and of %d in vain", told, barred, again, lost)
	}
}

func TestP97RoundsAreMadeOneBehindTheOtherCutAnywhere(t *testing.T) {
	d := &dice{at: 13}
	for _, path := range sharePaths() {
		rounds := len(path.rounds) - 1
		wantRun(t, path.w, path.first(), mostRounds, path.last())
		for _, cut := range []int{0, d.roll(rounds + 1), rounds} {
			ahead, ok := impl.ShareRun(path.w, path.first(), cut)
			wantTrips(t, "ShareRun of "+strconv.Itoa(cut), ahead, ok, path.rounds[cut])
			wantRun(t, path.w, ahead, rounds-cut, path.last())
		}
	}
	for _, odd := range oddShares() {
		cut := 1 + d.roll(9)
		ahead, _ := impl.ShareRun(odd.w, odd.first(), cut)
		whole, _ := impl.ShareRun(odd.w, odd.first(), 2*cut)
		wantRun(t, odd.w, ahead, cut, whole)
	}
}

func TestP98OneCallersShareRunIsTripRun(t *testing.T) {
	for _, path := range slices.Concat(tripPaths(), oddTrips()) {
		for _, rounds := range []int{0, 1, 5, mostRounds} {
			want, _ := impl.TripRun(path.w, path.first(), rounds)
			wantRun(t, path.w, path.trips[:1], rounds, []impl.Trip{want})
		}
	}
	for what, trip := range edgeTrips() {
		for _, rounds := range []int{0, 1, mostRounds} {
			want, _ := impl.TripRun(toldWorld(), trip, rounds)
			got, ok := impl.ShareRun(toldWorld(), []impl.Trip{trip}, rounds)
			wantTrips(t, what, got, ok, []impl.Trip{want})
		}
	}
}

func TestP106AllTripsStayOkWithAtMostOneCallMoreEachRound(t *testing.T) {
	for _, r := range shareRounds() {
		if len(r.after) != len(r.before) {
			t.Fatalf("ShareRun of %v is %v", r.before, r.after)
		}
		for i, trip := range r.after {
			calls := r.before[i].Looks
			if !impl.TripOk(trip) || len(trip.Looks) < len(calls) || len(trip.Looks) > len(calls)+1 || !slices.Equal(trip.Looks[:len(calls)], calls) {
				t.Errorf("ShareRun of %v is %v", r.before, r.after)
			}
		}
	}
	for _, path := range slices.Concat(sharePaths(), oddShares()) {
		for _, rounds := range []int{2, 7, mostRounds} {
			got, ok := impl.ShareRun(path.w, path.first(), rounds)
			if !ok || len(got) != len(path.first()) {
				t.Fatalf("ShareRun of %v is %v, %v", path.first(), got, ok)
			}
			for i, trip := range got {
				if !impl.TripOk(trip) || len(trip.Looks) > len(path.first()[i].Looks)+rounds {
					t.Errorf("ShareRun of %v by %d is %v", path.first(), rounds, got)
				}
			}
		}
	}
}
