package tests

import (
	"slices"
	"testing"

	"loop.example/pedlar/impl"
)

// pathParts are parts of each kind; PathClean alone knows no signs, nor strokes.
var pathParts = []string{"a", "b", "", ".", "..", "...", "%2E", "a/b"}

func TestPathCleanTold(t *testing.T) {
	for _, c := range []struct{ parts, want []string }{
		{nil, nil},
		{[]string{}, nil},
		{[]string{"", ".", ""}, nil},
		{[]string{".."}, nil},
		{[]string{"..", "..", "a"}, []string{"a"}},
		{[]string{"a", "..", "..", "b"}, []string{"b"}},
		{[]string{"a", "b", "..", "c"}, []string{"a", "c"}},
		{[]string{"a", "", "..", "c"}, []string{"c"}},
		{[]string{"a", ".", "..", "c"}, []string{"c"}},
		{[]string{"a", "a", "a"}, []string{"a", "a", "a"}},
		{[]string{"...", "%2E%2E", "A", "/", "\xff"}, []string{"...", "%2E%2E", "A", "/", "\xff"}},
		{[]string{"a", "b", "c", "d", "e", "f", "g"}, []string{"a", "b", "c", "d", "e", "f", "g"}},
	} {
		if got := impl.PathClean(c.parts); !slices.Equal(got, c.want) {
			t.Errorf("PathClean(%q) = %q, not %q", c.parts, got, c.want)
		}
	}
}

func TestP05NothingEmptyOrOfDotsIsLeft(t *testing.T) {
	for _, parts := range lists(pathParts, 4) {
		once := impl.PathClean(parts)
		for _, part := range once {
			if part == "" || part == "." || part == ".." {
				t.Errorf("PathClean(%q) = %q", parts, once)
			}
		}
		if twice := impl.PathClean(once); !slices.Equal(once, twice) {
			t.Errorf("PathClean(%q) = %q, but of that %q", parts, once, twice)
		}
	}
}

func TestP06PartsAreGoneByCutAnywhere(t *testing.T) {
	for _, parts := range lists(pathParts, 4) {
		want := impl.PathClean(parts)
		for cut := range len(parts) + 1 {
			ahead := slices.Clone(impl.PathClean(parts[:cut]))
			if got := impl.PathClean(append(ahead, parts[cut:]...)); !slices.Equal(got, want) {
				t.Errorf("PathClean(%q) = %q, cut at %d %q", parts, want, cut, got)
			}
		}
	}
}

func TestP07APartAndAStepUpAreNothing(t *testing.T) {
	for _, parts := range lists(pathParts, 4) {
		clean := impl.PathClean(parts)
		for _, part := range []string{"a", "...", "%2E"} {
			if got := impl.PathClean(append(slices.Clone(parts), part, "..")); !slices.Equal(got, clean) {
				t.Errorf("PathClean of %q, %q and a step up is %q, not %q", parts, part, got, clean)
			}
		}
		want := clean
		if len(want) > 0 {
			want = want[:len(want)-1]
		}
		if got := impl.PathClean(append(slices.Clone(parts), "..")); !slices.Equal(got, want) {
			t.Errorf("PathClean of %q and a step up is %q, not %q", parts, got, want)
		}
	}
}
