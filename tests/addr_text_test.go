package tests

import (
	"slices"
	"strings"
	"testing"

	"loop.example/pedlar/impl"
)

func xs(n int) string {
	return strings.Repeat("x", n)
}

func TestAddrOkTold(t *testing.T) {
	for _, c := range []struct {
		addr impl.Addr
		path string
	}{
		{impl.Addr{House: "a"}, "/"},
		{impl.Addr{House: "z", Parts: []string{}}, "/"},
		{impl.Addr{House: "az", Asks: true}, "/?"},
		{impl.Addr{House: "abcde", Asks: true, Ask: "q"}, "/?q"},
		{impl.Addr{House: "ab", Parts: []string{"a", "b"}, Asks: true, Ask: "q"}, "/a/b?q"},
		{impl.Addr{House: "ab", Parts: []string{"a", "b", "c", "d", "e"}}, "/a/b/c/d/e"},
		{impl.Addr{House: "ab", Parts: []string{"...", ".a", "%2F"}, Asks: true, Ask: "."}, "/.../.a/%2F?."},
		{impl.Addr{House: "ab", Parts: []string{xs(impl.AddrMax - 5)}}, "/" + xs(impl.AddrMax-5)},
		{impl.Addr{House: "ab", Asks: true, Ask: xs(impl.AddrMax - 6)}, "/?" + xs(impl.AddrMax-6)},
		{impl.Addr{House: "abcde", Parts: []string{"a", "b", "c", "d", xs(30)}, Asks: true, Ask: xs(13)}, "/a/b/c/d/" + xs(30) + "?" + xs(13)},
	} {
		want := "//" + c.addr.House + c.path
		if !impl.AddrOk(c.addr) || impl.AddrPath(c.addr) != c.path || impl.AddrText(c.addr) != want {
			t.Errorf("%#v: %v, %#v, %#v, not %#v", c.addr, impl.AddrOk(c.addr), impl.AddrPath(c.addr), impl.AddrText(c.addr), want)
		}
	}
}

// wrongAddrs are values that are no ok address, for one reason each.
func wrongAddrs() []impl.Addr {
	all := []impl.Addr{
		{},
		{Parts: []string{"a"}},
		{House: "abcdef"},
		{House: "ab", Parts: []string{"a", "b", "c", "d", "e", "f"}},
		{House: "ab", Ask: "q"},
		{House: "ab", Parts: []string{xs(impl.AddrMax - 4)}},
		{House: "ab", Asks: true, Ask: xs(impl.AddrMax - 5)},
		{House: "abcde", Parts: []string{"a", "b", "c", "d", xs(30)}, Asks: true, Ask: xs(14)},
		{House: "ab", Parts: make([]string, 1000)},
		{House: "ab", Parts: []string{xs(1000)}},
	}
	for _, house := range []string{"A", "aB", "a1", "a.", "a-", "a/", "%61", "a ", "`", "{", "\xe4", "\u212a"} {
		all = append(all, impl.Addr{House: house})
	}
	for _, part := range []string{"", ".", "..", "A", "/", "a/b", "%", "%4", "%2f", "%61", "%2E", "?", "#", "\x00", "\xff"} {
		all = append(all, impl.Addr{House: "ab", Parts: []string{part}}, impl.Addr{House: "ab", Parts: []string{"a", part}}, impl.Addr{House: "ab", Parts: []string{part, "a"}})
	}
	for _, ask := range []string{"A", "/", "?", "%", "%4", "%2f", "%61", "\xff"} {
		all = append(all, impl.Addr{House: "ab", Asks: true, Ask: ask})
	}
	return all
}

func TestAddrOkWrong(t *testing.T) {
	for _, a := range wrongAddrs() {
		if impl.AddrOk(a) || impl.AddrText(a) != "" || impl.AddrPath(a) != "" {
			t.Errorf("%#v: %v, %#v, %#v", a, impl.AddrOk(a), impl.AddrText(a), impl.AddrPath(a))
		}
		for _, ref := range []string{"", "a", "/a", "?a", "#", "//ab/a"} {
			wantNoJoin(t, a, ref)
		}
	}
}

func TestP08AnAddressIsReadBackFromItsText(t *testing.T) {
	for _, a := range okAddrs() {
		if !impl.AddrOk(a) {
			t.Fatalf("%#v is not ok", a)
		}
		if got, ok := impl.AddrRead(impl.AddrText(a)); !ok || !sameAddr(got, a) {
			t.Errorf("%#v is read back as %#v, %v", a, got, ok)
		}
	}
}

func TestP10AddressesAreTheSameJustIfTheirTextsAre(t *testing.T) {
	all := okAddrs()
	for i, a := range all {
		for _, b := range all[i:] {
			if sameAddr(a, b) != (impl.AddrText(a) == impl.AddrText(b)) {
				t.Errorf("%#v and %#v: texts %#v and %#v", a, b, impl.AddrText(a), impl.AddrText(b))
			}
		}
	}
}

func TestP11AddrTextIsBothStrokesTheHouseAndAddrPath(t *testing.T) {
	for _, a := range okAddrs() {
		text, path := impl.AddrText(a), impl.AddrPath(a)
		if !strings.HasPrefix(path, "/") || text != "//"+a.House+path {
			t.Errorf("%#v has the text %#v and the way %#v", a, text, path)
		}
	}
}

func TestP12PartsOfAnOkAddressAreAsTheyAreLeft(t *testing.T) {
	ok := 0
	for _, parts := range lists([]string{"a", "", ".", "..", "...", "%2F", "%2f", "%2E", "A", "a/b", "%"}, 3) {
		normal := slices.Equal(impl.PathClean(parts), parts)
		for _, part := range parts {
			written, whole := impl.EscNorm(part)
			normal = normal && whole && written == part
		}
		a := impl.Addr{House: "ab", Parts: parts}
		if impl.AddrOk(a) != normal {
			t.Errorf("AddrOk(%#v) = %v", a, !normal)
		}
		if normal {
			ok++
		}
	}
	if ok != 1+3+9+27 {
		t.Errorf("%d lists of parts are as they are left", ok)
	}
}

func TestP23AddrPathsAreTheSameJustIfAllButTheHousesIs(t *testing.T) {
	all := okAddrs()
	for i, a := range all {
		for _, b := range all[i:] {
			same := slices.Equal(a.Parts, b.Parts) && a.Asks == b.Asks && a.Ask == b.Ask
			if same != (impl.AddrPath(a) == impl.AddrPath(b)) {
				t.Errorf("%#v and %#v: ways %#v and %#v", a, b, impl.AddrPath(a), impl.AddrPath(b))
			}
		}
	}
}
