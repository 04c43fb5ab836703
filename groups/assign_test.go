package groups_test

import (
	"math"
	"slices"
	"testing"

	"logboom/groups"
)

// count is n numbers from a first one on.
func count(first, n int) []int {
	list := make([]int, n)
	for i := range list {
		list[i] = first + i
	}
	return list
}

func TestAssign(t *testing.T) {
	for _, c := range []struct {
		members, parts []int
		want           [][]int
	}{
		{l(1), l(1, 2, 3), [][]int{l(1, 2, 3)}},
		{l(4, 7), l(1, 2, 3), [][]int{l(1, 2), l(3)}},
		{l(4, 7), l(1, 2, 3, 4), [][]int{l(1, 2), l(3, 4)}},
		{l(4, 7, 9), l(2, 3, 5, 8, 13), [][]int{l(2, 3), l(5, 8), l(13)}},
		{l(4, 7, 9), l(2, 3, 5, 8), [][]int{l(2, 3), l(5), l(8)}},
		{l(4, 7, 9), l(6), [][]int{l(6), nil, nil}},
		{l(4, 7, 9), nil, [][]int{nil, nil, nil}},
		{nil, l(1, 2), nil},
		{nil, nil, nil},
		// Any numbers are given out as they stand.
		{l(9, -1, 9), l(5, 5, math.MinInt, 0, 5, math.MaxInt, 1), [][]int{l(5, 5, math.MinInt), l(0, 5), l(math.MaxInt, 1)}},
	} {
		if got := groups.Assign(c.members, c.parts); !slices.EqualFunc(got, c.want, slices.Equal) {
			t.Errorf("Assign(%v, %v): %v, want %v", c.members, c.parts, got, c.want)
		}
	}
}

func TestAssignOfAllCounts(t *testing.T) {
	for k := range 40 {
		for n := range 60 {
			parts := count(1, n)
			got := groups.Assign(count(100, k), parts)
			if len(got) != k {
				t.Fatalf("%d members have %d lists", k, len(got))
			}
			if k == 0 {
				continue
			}
			for i, size := range dealt(n, k) {
				if len(got[i]) != size {
					t.Fatalf("of %d parts and %d members, place %d has %d, want %d", n, k, i, len(got[i]), size)
				}
			}
			if all := slices.Concat(got...); !slices.Equal(all, parts) {
				t.Fatalf("of %d parts and %d members all are %v", n, k, all)
			}
		}
	}
}

func TestAssignOfLongLists(t *testing.T) {
	for _, c := range [][2]int{{1, 1000003}, {1000003, 1}, {100003, 1000003}, {1000003, 0}, {0, 1000003}} {
		got := groups.Assign(make([]int, c[0]), count(1, c[1]))
		all := 0
		for _, list := range got {
			all += len(list)
		}
		if len(got) != c[0] || c[0] > 0 && all != c[1] {
			t.Errorf("%v: %d lists, %d parts", c, len(got), all)
		}
	}
}

func TestAssignSharesNothing(t *testing.T) {
	members, parts := l(1, 2, 3, 77)[:3], l(1, 2, 3, 4, 5, 6, 7, 88)[:7]
	got := groups.Assign(members, parts)
	for i, list := range got {
		_ = append(list, 1000+i)
		for k := range list {
			list[k] = -list[k]
		}
	}
	want := [][]int{l(-1, -2, -3), l(-4, -5), l(-6, -7)}
	if !slices.EqualFunc(got, want, slices.Equal) {
		t.Errorf("lists that share: %v", got)
	}
	wantList(t, "members", members[:4], l(1, 2, 3, 77))
	wantList(t, "parts", parts[:8], l(1, 2, 3, 4, 5, 6, 7, 88))
	clear(parts)
	if !slices.EqualFunc(got, want, slices.Equal) {
		t.Errorf("lists that share what was handed in: %v", got)
	}
}
