package tests

import (
	"testing"

	"loop.example/pedlar/impl"
)

// wantOf says whose a house must be.
func wantOf(t *testing.T, house string, n, want int) {
	t.Helper()
	if got := impl.ShareOf(house, n); got != want {
		t.Errorf("ShareOf(%q, %d) = %d, not %d", house, n, got, want)
	}
}

// shareHouses are houses of each size.
func shareHouses() []string {
	letters := []string{"a", "b", "c", "m", "y", "z"}
	return append(mix(letters, impl.AddrHouse)[1:], "ab", "cd", "ef", "efghi", "zyxwv")
}

func TestShareOfTold(t *testing.T) {
	for _, c := range []struct {
		house    string
		two, all int
	}{
		{"a", 1, 1},
		{"b", 0, 2},
		{"c", 1, 0},
		{"ab", 1, 0},
		{"ba", 1, 0},
		{"cc", 0, 0},
		{"cd", 1, 1},
		{"zz", 0, 1},
		{"efghi", 1, 2},
		{"zzzzz", 0, 1},
	} {
		wantOf(t, c.house, 1, 0)
		wantOf(t, c.house, 2, c.two)
		wantOf(t, c.house, impl.ShareMax, c.all)
	}
}

func TestShareOfWrongInputs(t *testing.T) {
	for _, n := range wrongMany {
		wantOf(t, "ab", n, -1)
		wantOf(t, "zzzzz", n, -1)
	}
	for _, house := range wrongHouses {
		for n := range impl.ShareMax + 2 {
			wantOf(t, house, n, -1)
		}
		for _, n := range wrongMany {
			wantOf(t, house, n, -1)
		}
	}
}

func TestP95ShareOfIsOneOfSoManyTheFirstIfThereIsOne(t *testing.T) {
	for _, house := range shareHouses() {
		wantOf(t, house, 1, 0)
		for n := 1; n <= impl.ShareMax; n++ {
			if got := impl.ShareOf(house, n); got < 0 || got >= n {
				t.Errorf("ShareOf(%q, %d) = %d", house, n, got)
			}
			wantOf(t, house, n, ownerOf(house, n))
		}
	}
}
