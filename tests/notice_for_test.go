package tests

import (
	"slices"
	"testing"

	"loop.example/pedlar/impl"
)

// forNames are names that a notice is asked for: told ones, one that is told nowhere, and some that are none.
var forNames = []string{"a", "rover", "scout", "abcdefgh", "nobody", "*", "", "A"}

// wantFor says what a notice must say to a caller.
func wantFor(t *testing.T, n []impl.Group, name string, want impl.Group) {
	t.Helper()
	if got := impl.NoticeFor(n, name); !sameGroup(got, want) {
		t.Errorf("NoticeFor(%v, %q) = %v, not %v", n, name, got, want)
	}
}

// saidTo tells from all groups that have a name what is said to it, or, if the second is told, to that.
func saidTo(n []impl.Group, name, told string) impl.Group {
	said := impl.Group{Names: []string{name}}
	for _, group := range n {
		if slices.Contains(group.Names, told) {
			said.Rules = append(said.Rules, group.Rules...)
			said.Wait = max(said.Wait, group.Wait)
		}
	}
	return said
}

func tells(n []impl.Group, name string) bool {
	return slices.ContainsFunc(n, func(g impl.Group) bool { return slices.Contains(g.Names, name) })
}

func TestNoticeForTold(t *testing.T) {
	barred, open := bar("/"), let("/a")
	n := impl.NoticeRead("caller a\ncaller b\nbar /\nwait 3\ncaller *\nlet /a\nwait 9\ncaller b\nlet /a\nlet /a\nwait 2\ncaller c\n")
	wantFor(t, n, "a", impl.Group{Names: []string{"a"}, Rules: []impl.Rule{barred}, Wait: 3})
	wantFor(t, n, "b", impl.Group{Names: []string{"b"}, Rules: []impl.Rule{barred, open, open}, Wait: 3})
	wantFor(t, n, "c", impl.Group{Names: []string{"c"}})
	wantFor(t, n, "d", impl.Group{Names: []string{"d"}, Rules: []impl.Rule{open}, Wait: 9})
	wantFor(t, n, "*", impl.Group{Names: []string{"*"}, Rules: []impl.Rule{open}, Wait: 9})
	wantFor(t, n[:1], "d", impl.Group{Names: []string{"d"}})
	wantFor(t, n[:1], "*", impl.Group{Names: []string{"*"}})
}

func TestNoticeForGroupsOfSeveralNames(t *testing.T) {
	barred := bar("/")
	twice := []impl.Group{{Names: []string{"a", "*", "a"}, Rules: []impl.Rule{barred}, Wait: 4}}
	for _, name := range []string{"a", "*", "b"} {
		wantFor(t, twice, name, impl.Group{Names: []string{name}, Rules: []impl.Rule{barred}, Wait: 4})
	}
	later := append(twice, impl.Group{Names: []string{"b", "c"}, Wait: 6}, impl.Group{Names: []string{"*"}, Wait: 8})
	wantFor(t, later, "c", impl.Group{Names: []string{"c"}, Wait: 6})
	wantFor(t, later, "a", impl.Group{Names: []string{"a"}, Rules: []impl.Rule{barred}, Wait: 4})
	wantFor(t, later, "d", impl.Group{Names: []string{"d"}, Rules: []impl.Rule{barred}, Wait: 8})
}

func TestNoticeForOfWhatIsNoNotice(t *testing.T) {
	wrong := bar("no pattern")
	n := []impl.Group{{Names: []string{"a"}, Rules: slices.Repeat([]impl.Rule{wrong}, 50), Wait: 99}, {Names: []string{"b"}, Wait: -7}, {Names: []string{"b"}, Wait: -3}, {Wait: 50}}
	wantFor(t, n, "a", impl.Group{Names: []string{"a"}, Rules: slices.Repeat([]impl.Rule{wrong}, 50), Wait: 99})
	wantFor(t, n, "b", impl.Group{Names: []string{"b"}, Wait: -3})
	wantFor(t, n, "c", impl.Group{Names: []string{"c"}})
}

func TestP37IfTheNameIsToldOnlyGroupsWithItCount(t *testing.T) {
	for _, n := range okNotices() {
		for _, name := range forNames {
			if !tells(n, name) {
				continue
			}
			with := slices.DeleteFunc(slices.Clone(n), func(g impl.Group) bool { return !slices.Contains(g.Names, name) })
			wantFor(t, n, name, impl.NoticeFor(with, name))
		}
	}
}

func TestP38NoticeForHasAllRulesAndTheGreatestWait(t *testing.T) {
	for _, n := range okNotices() {
		for _, name := range forNames {
			if tells(n, name) {
				wantFor(t, n, name, saidTo(n, name, name))
			} else {
				wantFor(t, n, name, saidTo(n, name, "*"))
			}
		}
	}
}

func TestP39GroupsOfOthersChangeNothing(t *testing.T) {
	other := impl.Group{Names: []string{"other", "others"}, Rules: []impl.Rule{bar("/")}, Wait: impl.RuleWait}
	for _, n := range okNotices() {
		for _, name := range forNames {
			want := impl.NoticeFor(n, name)
			for at := range len(n) + 1 {
				wantFor(t, slices.Insert(slices.Clone(n), at, other), name, want)
			}
		}
	}
	for _, name := range forNames {
		wantFor(t, nil, name, impl.Group{Names: []string{name}})
		wantFor(t, []impl.Group{other}, name, impl.Group{Names: []string{name}})
	}
}

func TestP42ANoticeTwiceSaysAllRulesTwice(t *testing.T) {
	for _, n := range okNotices() {
		for _, name := range forNames {
			once := impl.NoticeFor(n, name)
			once.Rules = slices.Concat(once.Rules, once.Rules)
			wantFor(t, slices.Concat(n, n), name, once)
		}
	}
}
