package tests

import (
	"slices"
	"testing"

	"loop.example/pedlar/impl"
)

// someRules are rules of several sizes, several as long, and one that is no pattern.
var someRules = []impl.Rule{
	let("/"),
	bar("/"),
	let("/a"),
	bar("/a"),
	bar("/*"),
	let("/a$"),
	bar("/ab"),
	let("/*b"),
	bar("aaaa"),
	let("/a$b"),
}

func let(p string) impl.Rule {
	return impl.Rule{Let: true, Path: p}
}

func bar(p string) impl.Rule {
	return impl.Rule{Path: p}
}

// lets tells from the longest on whether rules let a way.
func lets(rules []impl.Rule, path string) bool {
	for size := impl.RuleMax; size > 0; size-- {
		some := false
		for _, rule := range rules {
			if len(rule.Path) == size && impl.RuleHas(rule.Path, path) {
				if rule.Let {
					return true
				}
				some = true
			}
		}
		if some {
			return false
		}
	}
	return true
}

func TestRuleLetsTold(t *testing.T) {
	for _, c := range []struct {
		rules []impl.Rule
		path  string
		want  bool
	}{
		{nil, "/", true},
		{[]impl.Rule{}, "", true},
		{[]impl.Rule{bar("/")}, "/a", false},
		{[]impl.Rule{bar("/")}, "", true},
		{[]impl.Rule{bar("/b")}, "/a", true},
		{[]impl.Rule{bar("/a"), let("/")}, "/ab", false},
		{[]impl.Rule{let("/"), bar("/a")}, "/b", true},
		{[]impl.Rule{bar("/"), let("/a"), bar("/ab")}, "/ac", true},
		{[]impl.Rule{bar("/"), let("/a"), bar("/ab")}, "/abc", false},
		{[]impl.Rule{bar("/a"), let("/a")}, "/a", true},
		{[]impl.Rule{let("/a"), bar("/a")}, "/a", true},
		{[]impl.Rule{let("/*"), bar("/a")}, "/a", true},
		{[]impl.Rule{bar("/a"), let("/*"), bar("/b")}, "/a", true},
		{[]impl.Rule{let("/a"), bar("/a$")}, "/a", false},
		{[]impl.Rule{let("/a"), bar("/a$")}, "/ab", true},
		{[]impl.Rule{bar("/a"), let("/a$b")}, "/a", false},
		{[]impl.Rule{bar("a"), bar(""), bar("/" + xs(impl.RuleMax))}, "/" + xs(impl.RuleMax), true},
		{[]impl.Rule{let("/"), bar("/" + xs(impl.RuleMax-1))}, "/" + xs(impl.RuleMax-1), false},
		{[]impl.Rule{bar("/")}, "/" + xs(impl.AddrMax-1), false},
		{[]impl.Rule{bar("/")}, "/" + xs(impl.AddrMax), true},
	} {
		if impl.RuleLets(c.rules, c.path) != c.want {
			t.Errorf("RuleLets(%v, %q) is %v", c.rules, c.path, !c.want)
		}
	}
}

func TestRuleLetsOfMoreThanAGroupMayHave(t *testing.T) {
	many := slices.Repeat([]impl.Rule{bar("/a")}, 5*impl.RuleMany)
	if impl.RuleLets(many, "/a") || !impl.RuleLets(append(many, let("/a")), "/a") {
		t.Error("rules behind many do not count")
	}
}

func TestP30RuleLetsIsToldByTheLongestPatterns(t *testing.T) {
	for _, rules := range lists(someRules, 3) {
		for _, path := range fewWays() {
			if want := lets(rules, path); impl.RuleLets(rules, path) != want {
				t.Errorf("RuleLets(%v, %q) is %v", rules, path, !want)
			}
		}
	}
}

func TestP31OrderAndHowOftenDoNotMatter(t *testing.T) {
	for _, path := range fewWays() {
		if !impl.RuleLets(nil, path) {
			t.Errorf("no rules bar %q", path)
		}
		for _, rules := range lists(someRules, 3) {
			want := impl.RuleLets(rules, path)
			back := slices.Clone(rules)
			slices.Reverse(back)
			for _, other := range [][]impl.Rule{back, slices.Concat(rules, rules), slices.Concat(rules, back[:len(back)/2])} {
				if impl.RuleLets(other, path) != want {
					t.Errorf("RuleLets(%v, %q) is %v, of %v it is not", rules, path, want, other)
				}
			}
		}
	}
}

func TestP32ARuleMoreThatLetsBarsNothing(t *testing.T) {
	for _, path := range fewWays() {
		for _, rules := range lists(someRules, 2) {
			ahead := impl.RuleLets(rules, path)
			for _, more := range someRules {
				behind := impl.RuleLets(append(slices.Clone(rules), more), path)
				if behind != ahead && behind != more.Let {
					t.Errorf("RuleLets(%v, %q) is %v, with %v it is not", rules, path, ahead, more)
				}
			}
		}
	}
}
