package tests

import (
	"slices"
	"testing"

	"loop.example/pedlar/impl"
)

// worldWithRoom is a world with room behind its end that must stay as it is.
func worldWithRoom(w []impl.Page) ([]impl.Page, []impl.Page) {
	all := append(slices.Clone(w), impl.Page{Addr: "room"}, impl.Page{Addr: "room"})
	return all[:len(w)], all
}

// spoilGroup writes into all lists of a group.
func spoilGroup(group impl.Group) {
	spoil(group.Names)
	spoilRules(group.Rules)
}

func TestWorldsLeaveWhatIsGiven(t *testing.T) {
	for _, given := range append(okWorlds(), wrongWorlds()...) {
		w, all := worldWithRoom(given)
		before := slices.Clone(all)
		seeds, allSeeds := withRoom("//ab/", "what", "//cd/x", "//ab/")
		seedsBefore := slices.Clone(allSeeds)
		impl.WorldOk(w)
		for _, addr := range lookups(given) {
			impl.WorldGet(w, addr, atLast)
			impl.WorldLets(w, "rover", addr)
			spoil(impl.WorldFrom(w, addr))
		}
		for _, house := range worldHouses {
			spoilGroup(impl.WorldNotice(w, house, "rover"))
		}
		spoil(impl.WorldReach(w, "rover", seeds))
		spoil(impl.WorldReach(w, "rover", seeds[:1]))
		if !slices.Equal(all, before) || !slices.Equal(allSeeds, seedsBefore) {
			t.Errorf("%v and %q were written into: %v and %q", before, seedsBefore, all, allSeeds)
		}
	}
}

func TestNothingIsKeptOfWorlds(t *testing.T) {
	seeds := []string{"//ab/", "//cd/x"}
	for _, w := range okWorlds() {
		for _, house := range worldHouses {
			said := impl.WorldNotice(w, house, "rover")
			spoilGroup(impl.WorldNotice(w, house, "rover"))
			wantSaid(t, w, house, "rover", said)
		}
		for _, addr := range lookups(w) {
			from := impl.WorldFrom(w, addr)
			spoil(impl.WorldFrom(w, addr))
			wantFrom(t, w, addr, from)
		}
		reach := impl.WorldReach(w, "rover", seeds)
		spoil(impl.WorldReach(w, "rover", seeds))
		wantReach(t, w, "rover", seeds, reach)
	}
}
