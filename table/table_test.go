package table_test

import (
	"math"
	"slices"
	"strconv"
	"strings"
	"testing"

	"loam/api"
	"loam/graph"
	"loam/table"
)

func fix(t *testing.T, s string) table.Name {
	t.Helper()
	n, err := table.Fix(s)
	if err != api.OK {
		t.Fatalf("%q: %v", s, err)
	}
	return n
}

func TestFix(t *testing.T) { // P1901, P4
	long := strings.Repeat("x", api.MaxName)
	for _, s := range []string{"a", "some name", long, "\xff\x01", " "} {
		n := fix(t, s)
		if n.String() != s || string(n[:len(s)]) != s || strings.Trim(string(n[len(s):]), "\x00") != "" {
			t.Errorf("%q: %v", s, n)
		}
	}
	for _, s := range []string{"", long + "x", "\x00", "a\x00", "a\x00b", "\x00a", long[1:] + "\x00", strings.Repeat("x", 1000)} {
		if n, err := table.Fix(s); n != (table.Name{}) || err != api.ErrName {
			t.Errorf("%q: %v, %v", s, n, err)
		}
	}
	if s := (table.Name{'a', 0, 'b'}).String(); s != "a" {
		t.Errorf("%q", s)
	}
	if s := (table.Name{}).String(); s != "" {
		t.Errorf("%q", s)
	}
}

func TestBindLookupUnbind(t *testing.T) { // P1901, W5
	var l table.Table
	a, b := fix(t, "a"), fix(t, "b")
	if to, ok := l.Lookup(a); to != 0 || ok || l.Len() != 0 || len(l.Roots()) != 0 {
		t.Error("a zero Table is not empty")
	}
	if to, ok := l.Unbind(a); to != 0 || ok {
		t.Error("unbound")
	}
	for _, c := range []struct {
		n       table.Name
		to, was int
	}{{b, 5, 0}, {a, 7, 0}, {b, 6, 5}, {b, 6, 6}, {a, math.MaxInt, 7}} {
		if was, err := l.Bind(c.n, c.to); was != c.was || err != api.OK {
			t.Errorf("Bind(%v, %d): %d, %v", c.n, c.to, was, err)
		}
	}
	if to, ok := l.Lookup(b); to != 6 || !ok || l.Len() != 2 {
		t.Error(to, ok)
	}
	if was, ok := l.Unbind(b); was != 6 || !ok || l.Len() != 1 {
		t.Error(was, ok)
	}
	if to, ok := l.Lookup(b); to != 0 || ok {
		t.Error(to, ok)
	}
}

func TestBindRefuses(t *testing.T) { // P1901, P6, P5
	var l table.Table
	a := fix(t, "a")
	for _, c := range []struct {
		n    table.Name
		to   int
		want api.Errno
	}{
		{a, 0, api.ErrArg}, {a, -1, api.ErrArg}, {a, math.MinInt, api.ErrArg}, {table.Name{}, 0, api.ErrArg},
		{table.Name{}, 1, api.ErrName}, {table.Name{0, 'a'}, 1, api.ErrName}, {table.Name{'a', 0, 'b'}, 1, api.ErrName}, {table.Name{31: 1}, 1, api.ErrName},
	} {
		if was, err := l.Bind(c.n, c.to); was != 0 || err != c.want || l.Len() != 0 {
			t.Errorf("Bind(%v, %d): %d, %v", c.n, c.to, was, err)
		}
	}
	for i := range api.MaxRoots {
		if _, err := l.Bind(fix(t, "n"+strconv.Itoa(i)), 1); err != api.OK {
			t.Fatal(err)
		}
	}
	if was, err := l.Bind(a, 1); was != 0 || err != api.ErrFull || l.Len() != api.MaxRoots {
		t.Error(was, err)
	}
	if _, err := l.Bind(table.Name{}, 1); err != api.ErrName {
		t.Error(err)
	}
	if was, err := l.Bind(fix(t, "n7"), 2); was != 1 || err != api.OK {
		t.Error("one that is there:", was, err)
	}
}

func TestRootsRise(t *testing.T) { // P1901
	var l table.Table
	for i, s := range []string{"b", "ab", "a", "\xff", "B", strings.Repeat("a", 32)} {
		l.Bind(fix(t, s), i+1)
	}
	want := []graph.Root{{Name: "B", To: 5}, {Name: "a", To: 3}, {Name: strings.Repeat("a", 32), To: 6}, {Name: "ab", To: 2}, {Name: "b", To: 1}, {Name: "\xff", To: 4}}
	if r := l.Roots(); !slices.Equal(r, want) {
		t.Errorf("%v", r)
	}
	l.Roots()[0].To = 77
	if !slices.Equal(l.Roots(), want) {
		t.Error("shared")
	}
}

func TestTwinIsApart(t *testing.T) { // P1901, P7
	var l table.Table
	a, b := fix(t, "a"), fix(t, "b")
	l.Twin().Bind(a, 1)
	l.Bind(a, 1)
	w := l.Twin()
	l.Bind(a, 2)
	w.Bind(b, 3)
	if to, _ := w.Lookup(a); to != 1 || w.Len() != 2 || l.Len() != 1 {
		t.Error("not apart")
	}
}
