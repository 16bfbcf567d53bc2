package tests

import (
	"slices"
	"sync"
	"testing"

	"loop.example/pedlar/impl"
)

// Limits that the document gives no names: calls of a trip, when a house is ready at last, and rules that are known of it.
const (
	mostCalls  = 400
	lastReady  = impl.TripTime + 100
	knownRules = 40
)

// tripPath is a trip from its beginning on, call by call, till none is made.
type tripPath struct {
	reachCase
	trips []impl.Trip
}

func (p tripPath) first() impl.Trip {
	return p.trips[0]
}

func (p tripPath) last() impl.Trip {
	return p.trips[len(p.trips)-1]
}

// tripStep is a call: the trip ahead of it, and then, and where it is to be made.
type tripStep struct {
	reachCase
	before, after impl.Trip
	place, when   int
}

// ahead is the house that is called at, as it was.
func (s tripStep) ahead() impl.House {
	return s.before.Houses[s.place]
}

// then is the house that was called at, as it is then.
func (s tripStep) then() impl.House {
	return s.after.Houses[s.place]
}

func (s tripStep) look() impl.Look {
	return s.after.Looks[len(s.after.Looks)-1]
}

func (s tripStep) failed() bool {
	return s.look().Kind == impl.GetFail
}

// tries is how often one called there ahead of this.
func (s tripStep) tries() int {
	if house := s.ahead(); !house.Known {
		return house.Tries
	}
	return s.ahead().Todo[0].Tries
}

// tripPaths are trips in worlds of each size, made once for all tests, which leave them as they are.
var tripPaths = sync.OnceValue(func() []tripPath {
	cases := []reachCase{
		{toldWorld(), "rover", []string{"//ab/"}},
		{toldWorld(), "scout", []string{"//ab/", "//ef/", "//cd/notice"}},
		{crowdedWorld(), "rover", []string{"//ab/a"}},
		{crowdedWorld(), "scout", []string{"//cd/", "//ab/d", "//ab/c", "//ab/a"}},
		{slowWorld(), "rover", []string{"//ab/a"}},
	}
	var all []tripPath
	for _, c := range append(cases, reachCases()...) {
		t, _ := impl.TripNew(c.name, c.seeds)
		path := tripPath{c, []impl.Trip{t}}
		for range mostCalls {
			next, ok := impl.TripStep(c.w, t)
			if !ok {
				break
			}
			path.trips = append(path.trips, next)
			t = next
		}
		all = append(all, path)
	}
	return all
})

// crowdedWorld is a world with more addresses than a trip hears of.
func crowdedWorld() []impl.Page {
	return []impl.Page{{Addr: "//ab/a", Text: manyLinks()}, {Addr: "//ab/b", Text: "<@/b/>" + manyLinks()}, {Addr: "//ab/c", Text: "<@/c/x>" + manyLinks()}, {Addr: "//ab/d", Text: "<@//cd/d/x>" + manyLinks(), Fails: 2}, {Addr: "//cd/notice", Text: "caller *\nbar /d/e\nwait 20\n"}}
}

// slowWorld is a crowded world of one house where one waits as long as may be, and much fails.
func slowWorld() []impl.Page {
	w := []impl.Page{{Addr: "//ab/notice", Text: "caller *\nwait 20\n", Fails: 2}, {Addr: "//ab/a", Text: manyLinks(), Fails: 2}, {Addr: "//ab/b", Text: "<@/b/>" + manyLinks(), Fails: 2}, {Addr: "//ab/c", Text: "<@/c/x>" + manyLinks(), Fails: 2}}
	for _, at := range []string{"d", "e", "f", "g", "h", "i", "j", "k"} {
		w = append(w, impl.Page{Addr: "//ab/" + at, Fails: mostFails})
	}
	return w
}

// isCrowded says whether there may have been more than a trip hears of.
func isCrowded(t impl.Trip) bool {
	return len(t.Seen) >= impl.TripMany
}

// tripSteps are all calls of these, and of odd trips.
var tripSteps = sync.OnceValue(func() []tripStep {
	var all []tripStep
	for _, path := range tripPaths() {
		for i, after := range path.trips[1:] {
			place, when, _ := impl.TripNext(path.trips[i])
			all = append(all, tripStep{path.reachCase, path.trips[i], after, place, when})
		}
	}
	for _, odd := range oddTrips() {
		place, when, ok := impl.TripNext(odd.first())
		after, made := impl.TripStep(odd.w, odd.first())
		if ok && made {
			all = append(all, tripStep{odd.reachCase, odd.first(), after, place, when})
		}
	}
	return all
})

// oddTrips are ok trips that no calls lead to, one each.
func oddTrips() []tripPath {
	d := &dice{at: 3}
	var all []tripPath
	for _, path := range tripPaths() {
		for range 3 {
			t := copyTrip(path.trips[d.roll(len(path.trips))])
			t.Now += d.roll(30)
			for i := range t.Houses {
				rollHouse(d, &t.Houses[i], t.Name)
			}
			all = append(all, tripPath{path.reachCase, []impl.Trip{t}})
		}
	}
	return all
}

// rollHouse changes what may be otherwise of a house.
func rollHouse(d *dice, house *impl.House, name string) {
	house.Ready = d.roll(60)
	house.Tries = d.roll(impl.TripTries)
	house.Known = d.roll(2) == 0
	house.Group = impl.Group{Names: []string{name}}
	if house.Known {
		house.Group.Wait = d.roll(impl.RuleWait + 1)
		house.Group.Rules = [][]impl.Rule{nil, {bar("/")}, {bar("/a"), let("/a/b")}, {bar("/notice")}}[d.roll(4)]
	}
	for i := range house.Todo {
		house.Todo[i].Tries = d.roll(impl.TripTries)
	}
}

func copyTrip(t impl.Trip) impl.Trip {
	t.Seen = slices.Clone(t.Seen)
	t.Looks = slices.Clone(t.Looks)
	t.Houses = slices.Clone(t.Houses)
	for i, house := range t.Houses {
		t.Houses[i].Group = impl.Group{Names: slices.Clone(house.Group.Names), Rules: slices.Clone(house.Group.Rules), Wait: house.Group.Wait}
		t.Houses[i].Todo = slices.Clone(house.Todo)
	}
	return t
}

func sameHouse(a, b impl.House) bool {
	return a.Name == b.Name && a.Ready == b.Ready && a.Known == b.Known && sameGroup(a.Group, b.Group) && a.Tries == b.Tries && slices.Equal(a.Todo, b.Todo)
}

func sameTrip(a, b impl.Trip) bool {
	return a.Name == b.Name && a.Now == b.Now && slices.EqualFunc(a.Houses, b.Houses, sameHouse) && slices.Equal(a.Seen, b.Seen) && slices.Equal(a.Looks, b.Looks)
}

// noticeOf is where a house's notice stands.
func noticeOf(house string) string {
	return "//" + house + "/notice"
}

// houseOf is the house of an address.
func houseOf(addr string) string {
	a, _ := impl.AddrRead(addr)
	return a.House
}

// barredAt says whether a house is known to bar an address.
func barredAt(house impl.House, addr string) bool {
	a, _ := impl.AddrRead(addr)
	return house.Known && !lets(house.Group.Rules, impl.AddrPath(a))
}

// houseIn is a trip's house of a name.
func houseIn(t impl.Trip, name string) (impl.House, bool) {
	at := slices.IndexFunc(t.Houses, func(house impl.House) bool { return house.Name == name })
	if at < 0 {
		return impl.House{}, false
	}
	return t.Houses[at], true
}

// looksAt is all calls of a trip at a house.
func looksAt(t impl.Trip, house string) []impl.Look {
	return slices.DeleteFunc(slices.Clone(t.Looks), func(look impl.Look) bool { return houseOf(look.Addr) != house })
}

// asksOf is how many of a house's calls, from the first on, are for its notice.
func asksOf(looks []impl.Look, house string) int {
	for i, look := range looks {
		switch {
		case look.Addr != noticeOf(house) || i == impl.TripTries:
			return i
		case look.Kind != impl.GetFail:
			return i + 1
		}
	}
	return len(looks)
}

// toldTrip is an ok trip under way, with something of each kind.
func toldTrip() impl.Trip {
	return impl.Trip{
		Name: "rover",
		Now:  14,
		Houses: []impl.House{
			{Name: "ab", Ready: 16, Known: true, Group: impl.Group{Names: []string{"rover"}, Rules: []impl.Rule{bar("/b")}, Wait: 2}, Tries: 1, Todo: []impl.Item{{Addr: "//ab/c"}, {Addr: "//ab/a", Tries: 2}}},
			{Name: "cd", Ready: 15, Group: impl.Group{Names: []string{"rover"}}, Tries: 2, Todo: []impl.Item{{Addr: "//cd/x"}}},
			{Name: "ef", Known: true, Group: impl.Group{Names: []string{"rover"}}},
		},
		Seen:  []string{"//ab/", "//ab/a", "//ab/b", "//cd/x", "//ab/c", "//ef/"},
		Looks: []impl.Look{{Time: 0, Addr: "//ab/notice", Kind: impl.GetFail}, {Time: 3, Addr: "//ab/notice", Kind: impl.GetPage}, {Time: 5, Addr: "//ef/notice"}, {Time: 5, Addr: "//ab/", Kind: impl.GetLead}, {Time: 14, Addr: "//cd/notice", Kind: impl.GetFail}},
	}
}

// changed is the told trip with one thing otherwise.
func changed(change func(t *impl.Trip)) impl.Trip {
	t := toldTrip()
	change(&t)
	return t
}

// seenOf is so many addresses of one house.
func seenOf(n int) []string {
	var seen []string
	for i := range n {
		seen = append(seen, "//zz/"+string(rune('a'+i/26))+string(rune('a'+i%26)))
	}
	return seen
}

// wantTrip says which trip must be answered.
func wantTrip(t *testing.T, what string, got impl.Trip, ok bool, want impl.Trip) {
	t.Helper()
	if !ok || !sameTrip(got, want) {
		t.Errorf("%q is %v, %v, not %v", what, got, ok, want)
	}
}

// wantNoTrip says that nothing must be answered.
func wantNoTrip(t *testing.T, what string, got impl.Trip, ok bool) {
	t.Helper()
	if ok || !sameTrip(got, impl.Trip{}) {
		t.Errorf("%q is %v, %v, not nothing", what, got, ok)
	}
}
