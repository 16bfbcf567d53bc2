package tests

import (
	"slices"
	"strings"
	"testing"

	"loop.example/pedlar/impl"
)

// noticeLines is how many lines of a notice count.
const noticeLines = 40

func sameGroup(a, b impl.Group) bool {
	return slices.Equal(a.Names, b.Names) && slices.Equal(a.Rules, b.Rules) && a.Wait == b.Wait
}

func sameNotice(a, b []impl.Group) bool {
	return slices.EqualFunc(a, b, sameGroup)
}

// wantNotice says as which groups a text must be read.
func wantNotice(t *testing.T, text string, want []impl.Group) {
	t.Helper()
	if got := impl.NoticeRead(text); !sameNotice(got, want) {
		t.Errorf("NoticeRead(%q) = %v, not %v", text, got, want)
	}
}

// okGroups are groups that may stand in a notice: of one name and of several, with rules, a Wait, or both.
func okGroups() []impl.Group {
	six := []impl.Rule{bar("/"), let("/a"), bar("/*b$"), let("/%2F?"), bar("/"), bar("/" + xs(impl.RuleMax-1))}
	var all []impl.Group
	for _, names := range [][]string{{"a"}, {"*"}, {"rover", "scout"}, {"abcdefgh", "*", "a"}, {"a", "a"}} {
		for _, rules := range [][]impl.Rule{nil, {let("/a")}, {bar("/a"), bar("/b$")}, six} {
			for _, wait := range []int{0, 1, impl.RuleWait} {
				if rules != nil || wait != 0 {
					all = append(all, impl.Group{Names: names, Rules: rules, Wait: wait})
				}
			}
		}
	}
	return all
}

// okNotices are notices of none, one, two and three groups.
func okNotices() [][]impl.Group {
	all := [][]impl.Group{nil}
	groups := okGroups()
	for i, one := range groups {
		all = append(all, []impl.Group{one})
		for j, two := range groups {
			all = append(all, []impl.Group{one, two})
			if (i+j)%7 == 0 {
				all = append(all, []impl.Group{one, two, groups[(i*3+j)%len(groups)]})
			}
		}
	}
	return all
}

// manyNames is so many names, all of one letter.
func manyNames(n int) []string {
	return slices.Repeat([]string{"a"}, n)
}

// noticePieces are lines of each kind, right and wrong.
var noticePieces = []string{"caller a\n", "caller b\n", "caller *\n", "let /a\n", "bar /\n", "bar b\n", "wait 5\n", "wait x\n", "what\n"}

// readTexts is notices of such lines.
func readTexts() []string {
	all := mix(noticePieces, 4)
	for _, line := range noticePieces {
		all = append(all, "caller a\n"+strings.Repeat(line, 50), strings.Repeat(line+"caller b\n", 30))
	}
	return all
}
