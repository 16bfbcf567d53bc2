package tests

import (
	"slices"
	"strings"
	"sync"
	"testing"

	"loop.example/pedlar/impl"
)

// mostRounds is a limit that the document gives no name.
const mostRounds = 400

// wrongMany are numbers of callers that there may not be.
var wrongMany = []int{0, -1, impl.ShareMax + 1, 1 << 31, -1 << 63, 1<<63 - 1}

// sharePath is several callers' trips from their beginning on, round by round, till nobody calls.
type sharePath struct {
	reachCase
	rounds [][]impl.Trip
}

func (p sharePath) first() []impl.Trip {
	return p.rounds[0]
}

func (p sharePath) last() []impl.Trip {
	return p.rounds[len(p.rounds)-1]
}

// shareRound is a round: all trips ahead of it, and then.
type shareRound struct {
	reachCase
	before, after []impl.Trip
}

// ownerOf tells whose a house is, of so many callers.
func ownerOf(house string, n int) int {
	sum := 0
	for _, letter := range []byte(house) {
		sum += int(letter)
	}
	return sum % n
}

// moved is a case with another house in place of cd, as of two callers one would have all houses.
func moved(c reachCase) reachCase {
	move := strings.NewReplacer("//cd", "//cc", "//CD", "//CC")
	c.w, c.seeds = slices.Clone(c.w), slices.Clone(c.seeds)
	for i, page := range c.w {
		c.w[i] = impl.Page{Addr: move.Replace(page.Addr), Text: move.Replace(page.Text), Lead: move.Replace(page.Lead), Fails: page.Fails}
	}
	for i, seed := range c.seeds {
		c.seeds[i] = move.Replace(seed)
	}
	return c
}

// sharePaths are trips of several callers in worlds of each size, made once for all tests, which leave them as they are.
var sharePaths = sync.OnceValue(func() []sharePath {
	late := reachCase{lateWorld(), "rover", []string{"//cd/a", "//ab/a"}}
	all := []sharePath{walk(late, 3), walk(moved(late), 2)}
	for i, path := range tripPaths() {
		if i%2 == 0 {
			all = append(all, walk(path.reachCase, 3))
		} else {
			all = append(all, walk(moved(path.reachCase), 2))
		}
	}
	return all
})

// lateWorld is a world where one is told of something when one has heard of all one may.
func lateWorld() []impl.Page {
	return []impl.Page{{Addr: "//cd/a", Text: manyLinks()}, {Addr: "//cd/b", Text: "<@/b/x>" + manyLinks()}, {Addr: "//cd/c", Text: "<@/c/x>" + manyLinks()}, {Addr: "//ab/a", Lead: "//ab/b", Fails: 2}, {Addr: "//ab/b", Lead: "//ab/c", Fails: 2}, {Addr: "//ab/c", Text: "<//cd/late><//cd/d>"}}
}

// walk is how so many callers go, round by round.
func walk(c reachCase, n int) sharePath {
	trips, _ := impl.ShareNew(c.name, c.seeds, n)
	path := sharePath{c, [][]impl.Trip{trips}}
	for range mostRounds {
		next, ok := impl.ShareRun(c.w, trips, 1)
		if !ok || callsOf(next) == callsOf(trips) {
			break
		}
		path.rounds = append(path.rounds, next)
		trips = next
	}
	return path
}

// callsOf is how many calls all made.
func callsOf(trips []impl.Trip) int {
	calls := 0
	for _, trip := range trips {
		calls += len(trip.Looks)
	}
	return calls
}

// oddShares are such trips that no rounds lead to, one each.
func oddShares() []sharePath {
	d := &dice{at: 5}
	var all []sharePath
	for _, path := range sharePaths() {
		trips := copyTrips(path.rounds[d.roll(len(path.rounds))])
		for i := range trips {
			trips[i].Now += d.roll(30)
			for at := range trips[i].Houses {
				rollHouse(d, &trips[i].Houses[at], trips[i].Name)
			}
		}
		all = append(all, sharePath{path.reachCase, [][]impl.Trip{trips}})
	}
	return all
}

// shareRounds are all rounds of these, one in which nobody calls behind each path.
var shareRounds = sync.OnceValue(func() []shareRound {
	var all []shareRound
	for _, path := range sharePaths() {
		for i, after := range path.rounds[1:] {
			all = append(all, shareRound{path.reachCase, path.rounds[i], after})
		}
		none, _ := impl.ShareRun(path.w, path.last(), 1)
		all = append(all, shareRound{path.reachCase, path.last(), none})
	}
	for _, odd := range oddShares() {
		after, _ := impl.ShareRun(odd.w, odd.first(), 1)
		all = append(all, shareRound{odd.reachCase, odd.first(), after})
	}
	return all
})

func copyTrips(trips []impl.Trip) []impl.Trip {
	trips = slices.Clone(trips)
	for i, trip := range trips {
		trips[i] = copyTrip(trip)
	}
	return trips
}

func sameTrips(a, b []impl.Trip) bool {
	return slices.EqualFunc(a, b, sameTrip)
}

// anyCrowded says whether one of them may not have heard of all.
func anyCrowded(trips []impl.Trip) bool {
	return slices.ContainsFunc(trips, isCrowded)
}

// leftAt is all addresses that are left to a caller at a house.
func leftAt(trip impl.Trip, house string) []string {
	stands, _ := houseIn(trip, house)
	var left []string
	for _, item := range stands.Todo {
		left = append(left, item.Addr)
	}
	return left
}

// hasTold is trips of which one has told the others what is theirs.
func hasTold(trips []impl.Trip, from int) []impl.Trip {
	trips = copyTrips(trips)
	for i, house := range trips[from].Houses {
		to := ownerOf(house.Name, len(trips))
		if to == from {
			continue
		}
		trips[to] = hears(trips[to], leftAt(trips[from], house.Name))
		trips[from].Houses[i].Todo = nil
	}
	return trips
}

// toldShare is such trips of three callers under way, with something of each kind; ab is the first one's, cd the second's, ef the third's.
func toldShare() []impl.Trip {
	first := toldTrip()
	first.Houses[1].Todo = nil
	second := impl.Trip{
		Name:   "rover",
		Now:    3,
		Houses: []impl.House{{Name: "cd", Ready: 5, Known: true, Group: impl.Group{Names: []string{"rover"}, Rules: []impl.Rule{bar("/b")}, Wait: 4}, Todo: []impl.Item{{Addr: "//cd/x"}, {Addr: "//cd/y", Tries: 1}}}},
		Seen:   []string{"//cd/x", "//cd/b", "//cd/y"},
		Looks:  []impl.Look{{Time: 0, Addr: "//cd/notice", Kind: impl.GetPage}, {Time: 3, Addr: "//cd/y", Kind: impl.GetFail}},
	}
	third := impl.Trip{
		Name:   "rover",
		Houses: []impl.House{newHouse("ef", "rover", "//ef/")},
		Seen:   []string{"//ef/"},
	}
	return []impl.Trip{first, second, third}
}

// changedShare is the told trips with one thing otherwise.
func changedShare(change func(trips []impl.Trip)) []impl.Trip {
	trips := toldShare()
	change(trips)
	return trips
}

// wantTrips says which trips must be answered.
func wantTrips(t *testing.T, what string, got []impl.Trip, ok bool, want []impl.Trip) {
	t.Helper()
	if !ok || !sameTrips(got, want) {
		t.Errorf("%q is %v, %v, not %v", what, got, ok, want)
	}
}

// wantNoTrips says that nothing must be answered.
func wantNoTrips(t *testing.T, what string, got []impl.Trip, ok bool) {
	t.Helper()
	if ok || len(got) != 0 {
		t.Errorf("%q is %v, %v, not nothing", what, got, ok)
	}
}
