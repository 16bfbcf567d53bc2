package tests

import (
	"slices"
	"testing"

	"loop.example/pedlar/impl"
)

// spoilRules writes into all of a list of rules, its spare room too.
func spoilRules(list []impl.Rule) {
	all := list[:cap(list)]
	for i := range all {
		all[i] = impl.Rule{Path: "spoilt"}
	}
}

// noticeWithRoom is a notice with room behind the end of each list, and all of these with their room.
func noticeWithRoom() ([]impl.Group, []impl.Group, [][]string, [][]impl.Rule) {
	var groups []impl.Group
	var names [][]string
	var rules [][]impl.Rule
	for _, group := range impl.NoticeRead("caller a\ncaller b\nbar /\ncaller *\nlet /a\nbar /b\nwait 5\ncaller a\nwait 4\n") {
		texts, room := withRoom(group.Names...)
		more := append(slices.Clone(group.Rules), impl.Rule{Path: "room"}, impl.Rule{Path: "room"})
		names = append(names, room)
		rules = append(rules, more)
		groups = append(groups, impl.Group{Names: texts, Rules: more[:len(group.Rules)], Wait: group.Wait})
	}
	all := append(groups, impl.Group{Wait: 7})
	return all[:len(groups)], all, names, rules
}

func TestNoticesLeaveWhatIsGiven(t *testing.T) {
	n, all, names, rules := noticeWithRoom()
	_, sameAll, sameNames, sameRules := noticeWithRoom()
	impl.NoticeOk(n)
	impl.NoticeText(n)
	impl.RuleLets(n[1].Rules, "/a")
	for _, name := range []string{"a", "b", "c", "*"} {
		said := impl.NoticeFor(n, name)
		spoil(said.Names)
		spoilRules(said.Rules)
	}
	if !sameNotice(all, sameAll) || !slices.EqualFunc(names, sameNames, slices.Equal[[]string]) || !slices.EqualFunc(rules, sameRules, slices.Equal[[]impl.Rule]) {
		t.Errorf("%v, %v, %v were written into", all, names, rules)
	}
}

func TestListsOfANoticeShareNothing(t *testing.T) {
	text := "caller a\ncaller b\ncaller c\nbar /\nbar /\nbar /a\ncaller a\nlet /a\ncaller b\ncaller c\nwait 5\n"
	want := impl.NoticeRead(text)
	for at := range want {
		got := impl.NoticeRead(text)
		spoil(got[at].Names)
		got[at].Names = want[at].Names
		if !sameNotice(got, want) {
			t.Errorf("names of group %d are shared: %v", at, got)
		}
		spoilRules(got[at].Rules)
		got[at].Rules = want[at].Rules
		if !sameNotice(got, want) {
			t.Errorf("rules of group %d are shared: %v", at, got)
		}
	}
	wantNotice(t, text, want)
}
