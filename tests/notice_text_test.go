package tests

import (
	"slices"
	"testing"

	"loop.example/pedlar/impl"
)

func TestNoticeTextTold(t *testing.T) {
	for _, c := range []struct {
		notice []impl.Group
		want   string
	}{
		{nil, ""},
		{[]impl.Group{}, ""},
		{[]impl.Group{{Names: []string{"a"}, Wait: 1}}, "caller a\nwait 1\n"},
		{[]impl.Group{{Names: []string{"a"}, Rules: []impl.Rule{bar("/")}}}, "caller a\nbar /\n"},
		{[]impl.Group{{Names: []string{"*"}, Rules: []impl.Rule{let("/a$"), bar("/*")}, Wait: impl.RuleWait}}, "caller *\nlet /a$\nbar /*\nwait 20\n"},
		{[]impl.Group{{Names: []string{"b", "a", "*"}, Wait: 3}, {Names: []string{"abcdefgh"}, Wait: 3}}, "caller b\ncaller a\ncaller *\nwait 3\ncaller abcdefgh\nwait 3\n"},
	} {
		if got := impl.NoticeText(c.notice); !impl.NoticeOk(c.notice) || got != c.want {
			t.Errorf("%v: %v, %q, not %q", c.notice, impl.NoticeOk(c.notice), got, c.want)
		}
	}
}

// wrongGroups are groups that may not stand in a notice, for one reason each.
func wrongGroups() []impl.Group {
	rules := []impl.Rule{bar("/")}
	all := []impl.Group{
		{},
		{Names: []string{"a"}},
		{Names: []string{"*"}, Rules: []impl.Rule{}},
		{Rules: rules},
		{Wait: 5},
		{Rules: rules, Wait: 5},
		{Names: []string{"a"}, Wait: -1},
		{Names: []string{"a"}, Rules: rules, Wait: -1},
		{Names: []string{"a"}, Wait: impl.RuleWait + 1},
		{Names: []string{"a"}, Rules: rules, Wait: impl.RuleWait + 1},
		{Names: []string{"a"}, Rules: slices.Repeat(rules, impl.RuleMany+1)},
		{Names: []string{"a"}, Rules: slices.Repeat(rules, impl.RuleMany+1), Wait: 5},
	}
	for _, name := range []string{"", "**", "*a", "A", "a1", "a ", "a\n", "{", "\xe4", "abcdefghi"} {
		all = append(all, impl.Group{Names: []string{name}, Rules: rules}, impl.Group{Names: []string{"a", name}, Rules: rules}, impl.Group{Names: []string{name, "*"}, Wait: 5})
	}
	for _, p := range wrongPatterns {
		all = append(all, impl.Group{Names: []string{"a"}, Rules: []impl.Rule{bar(p)}}, impl.Group{Names: []string{"a"}, Rules: []impl.Rule{bar("/"), let(p)}, Wait: 5})
	}
	return all
}

func TestNoticeOkWrong(t *testing.T) {
	fine := impl.Group{Names: []string{"a"}, Wait: 5}
	for _, wrong := range wrongGroups() {
		for _, n := range [][]impl.Group{{wrong}, {fine, wrong}, {wrong, fine}} {
			if impl.NoticeOk(n) || impl.NoticeText(n) != "" {
				t.Errorf("%v: %v, %q", n, impl.NoticeOk(n), impl.NoticeText(n))
			}
		}
	}
}

func TestNoticeOkLimit(t *testing.T) {
	rules := slices.Repeat([]impl.Rule{bar("/")}, impl.RuleMany)
	small := impl.Group{Names: []string{"b"}, Rules: rules[:2]}
	for _, c := range []struct {
		notice []impl.Group
		want   bool
	}{
		{[]impl.Group{{Names: manyNames(39), Wait: 5}}, true},
		{[]impl.Group{{Names: manyNames(40), Wait: 5}}, false},
		{[]impl.Group{{Names: manyNames(33), Rules: rules}}, true},
		{[]impl.Group{{Names: manyNames(33), Rules: rules, Wait: 5}}, true},
		{[]impl.Group{{Names: manyNames(34), Rules: rules}}, false},
		{[]impl.Group{{Names: manyNames(38), Rules: rules[:1]}}, true},
		{[]impl.Group{{Names: manyNames(39), Rules: rules[:1]}}, false},
		{slices.Repeat([]impl.Group{small}, 10), true},
		{slices.Repeat([]impl.Group{small}, 11), false},
		{append(slices.Repeat([]impl.Group{small}, 9), impl.Group{Names: []string{"a", "b"}, Rules: rules[:1]}), true},
		{append(slices.Repeat([]impl.Group{small}, 9), impl.Group{Names: []string{"a", "b"}, Rules: rules[:2]}), false},
		{slices.Repeat([]impl.Group{{Names: []string{"a"}, Wait: 5}}, 20), true},
		{slices.Repeat([]impl.Group{{Names: []string{"a"}, Wait: 5}}, 21), false},
	} {
		if impl.NoticeOk(c.notice) != c.want {
			t.Errorf("NoticeOk(%v) is %v", c.notice, !c.want)
		}
		if text := impl.NoticeText(c.notice); (text != "") != c.want {
			t.Errorf("NoticeText(%v) = %q", c.notice, text)
		} else if c.want {
			wantNotice(t, text, c.notice)
		}
	}
}

func TestP33ANoticeIsReadBackFromItsText(t *testing.T) {
	for _, n := range okNotices() {
		if !impl.NoticeOk(n) {
			t.Fatalf("%v is not ok", n)
		}
		wantNotice(t, impl.NoticeText(n), n)
	}
}

func TestP36EachGroupOfANoticeIsOne(t *testing.T) {
	notices := okNotices()
	for _, text := range readTexts() {
		notices = append(notices, impl.NoticeRead(text))
	}
	for _, n := range notices {
		alone := true
		for _, group := range n {
			alone = alone && impl.NoticeOk([]impl.Group{group})
		}
		if impl.NoticeOk(n) && !alone {
			t.Errorf("%v is ok, but not each group alone", n)
		}
	}
}

func TestP41NoticeTextOfTwoIsThatOfBoth(t *testing.T) {
	notices := okNotices()
	for i, one := range notices {
		two := notices[i*31%len(notices)]
		both := slices.Concat(one, two)
		if !impl.NoticeOk(both) {
			continue
		}
		text := impl.NoticeText(one) + impl.NoticeText(two)
		if got := impl.NoticeText(both); got != text {
			t.Errorf("NoticeText(%v) = %q, not %q", both, got, text)
		}
		wantNotice(t, text, both)
	}
}
