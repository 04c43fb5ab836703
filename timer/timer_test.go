package timer_test

import (
	"math"
	"slices"
	"strconv"
	"strings"
	"testing"

	"logboom/api"
	"logboom/timer"
)

func made(t *testing.T) *timer.Timers {
	t.Helper()
	x := timer.New()
	if x == nil {
		t.Fatal("New: nothing")
	}
	return x
}

// set makes timers of pairs: a key, and when it is due.
func set(t *testing.T, x *timer.Timers, pairs ...[2]int) {
	t.Helper()
	for _, p := range pairs {
		if e := x.Set(p[0], p[1]); e != api.OK {
			t.Fatalf("Set(%d, %d): %v", p[0], p[1], e)
		}
	}
}

// crowded has as many as there may be, with keys from 0 on, each due at its key.
func crowded(t *testing.T) *timer.Timers {
	t.Helper()
	x := made(t)
	for i := range 1000 {
		set(t, x, [2]int{i, i})
	}
	return x
}

func wantErr(t *testing.T, what string, got, want api.Errno) {
	t.Helper()
	if got != want {
		t.Errorf("%s: got %d, want %d", what, int(got), int(want))
	}
}

func wantAt(t *testing.T, x *timer.Timers, key, at int) {
	t.Helper()
	if got := x.At(key); got != at {
		t.Errorf("At(%d): got %d, want %d", key, got, at)
	}
}

func wantNext(t *testing.T, x *timer.Timers, at int) {
	t.Helper()
	if got := x.Next(); got != at {
		t.Errorf("Next: got %d, want %d", got, at)
	}
}

func wantLen(t *testing.T, x *timer.Timers, n int) {
	t.Helper()
	if got := x.Len(); got != n {
		t.Errorf("Len: got %d, want %d", got, n)
	}
}

func wantDue(t *testing.T, x *timer.Timers, now int, keys ...int) {
	t.Helper()
	if got := x.Due(now); !slices.Equal(got, keys) {
		t.Errorf("Due(%d): got %v, want %v", now, got, keys)
	}
}

// picture is all that timers tell of themselves, of some keys.
func picture(x *timer.Timers, keys []int) string {
	var s strings.Builder
	s.WriteString("next " + strconv.Itoa(x.Next()) + " of " + strconv.Itoa(x.Len()))
	for _, key := range keys {
		s.WriteString("\n" + strconv.Itoa(key) + " " + strconv.Itoa(x.At(key)))
	}
	return s.String()
}

// ticks are the edges of those that may be.
var ticks = []int{0, 1, 999999999, 1000000000}

// keys are the edges of all that there are.
var keys = []int{math.MinInt, math.MinInt + 1, -1000000001, -1, 0, 1, 1000000001, math.MaxInt - 1, math.MaxInt}

// T2.1

func TestNewHasNoTimer(t *testing.T) {
	x := made(t)
	wantLen(t, x, 0)
	wantNext(t, x, -1)
	for _, key := range keys {
		wantAt(t, x, key, -1)
		wantErr(t, "Cancel", x.Cancel(key), api.ErrNone)
	}
	wantDue(t, x, math.MaxInt)
}

func TestNewOnesAreOnTheirOwn(t *testing.T) {
	x, y := made(t), made(t)
	set(t, x, [2]int{1, 5})
	wantLen(t, y, 0)
	wantAt(t, y, 1, -1)
	set(t, y, [2]int{1, 3})
	wantDue(t, y, 4, 1)
	wantAt(t, x, 1, 5)
}

func TestSetTakesEveryTickThatMayBe(t *testing.T) {
	for _, at := range ticks {
		x := made(t)
		wantErr(t, "Set", x.Set(1, at), api.OK)
		wantAt(t, x, 1, at)
	}
}

func TestSetRefusesOtherTicks(t *testing.T) {
	for _, at := range []int{-1, -2, math.MinInt, 1000000001, math.MaxInt} {
		x := made(t)
		wantErr(t, "Set of no timer", x.Set(1, at), api.ErrArg)
		wantLen(t, x, 0)
		wantAt(t, x, 1, -1)
		set(t, x, [2]int{1, 5})
		wantErr(t, "Set of one", x.Set(1, at), api.ErrArg)
		wantLen(t, x, 1)
		wantAt(t, x, 1, 5)
		wantNext(t, x, 5)
	}
}

func TestSetTakesEveryKey(t *testing.T) {
	x := made(t)
	for i, key := range keys {
		wantErr(t, "Set", x.Set(key, i), api.OK)
	}
	wantLen(t, x, len(keys))
	for i, key := range keys {
		wantAt(t, x, key, i)
	}
	for _, key := range keys {
		wantErr(t, "Cancel", x.Cancel(key), api.OK)
		wantErr(t, "Cancel again", x.Cancel(key), api.ErrNone)
	}
	wantLen(t, x, 0)
}

func TestSetAnewMovesATimer(t *testing.T) {
	for _, at := range []int{0, 3, 5, 6, 8, 1000000000} {
		x := made(t)
		set(t, x, [2]int{1, 4}, [2]int{2, 5}, [2]int{3, 7}, [2]int{2, at})
		wantLen(t, x, 3)
		wantAt(t, x, 2, at)
		wantNext(t, x, min(4, at))
		wantAt(t, x, 1, 4)
		wantAt(t, x, 3, 7)
		wantDue(t, x, at-1, due([2]int{1, 4}, [2]int{3, 7}, at-1)...)
		wantAt(t, x, 2, at)
	}
}

// due are the keys of two timers that are due, the first one first.
func due(a, b [2]int, now int) []int {
	var l []int
	for _, p := range [][2]int{a, b} {
		if p[1] <= now {
			l = append(l, p[0])
		}
	}
	return l
}

func TestSetAnewAtTheSameTickChangesNothing(t *testing.T) {
	x := made(t)
	set(t, x, [2]int{2, 5}, [2]int{1, 5}, [2]int{2, 5})
	wantLen(t, x, 2)
	wantDue(t, x, 5, 1, 2)
}

func TestSetTakesAThousand(t *testing.T) {
	x := crowded(t)
	wantLen(t, x, 1000)
	for _, key := range []int{-1, 1000, math.MinInt, math.MaxInt} {
		before := picture(x, []int{0, 999, key})
		wantErr(t, "Set of one more", x.Set(key, 5), api.ErrMany)
		if got := picture(x, []int{0, 999, key}); got != before {
			t.Errorf("a refused Set: got %s\nwant %s", got, before)
		}
	}
}

func TestSetAnewIsNotOneMore(t *testing.T) {
	x := crowded(t)
	for _, key := range []int{0, 500, 999} {
		wantErr(t, "Set anew", x.Set(key, 2000), api.OK)
		wantAt(t, x, key, 2000)
	}
	wantLen(t, x, 1000)
	wantNext(t, x, 1)
}

func TestSetTellsAWrongTickAheadOfTooMany(t *testing.T) {
	x := crowded(t)
	wantErr(t, "Set", x.Set(-1, -1), api.ErrArg)
	wantErr(t, "Set", x.Set(-1, 1000000001), api.ErrArg)
	wantErr(t, "Set anew", x.Set(1, 1000000001), api.ErrArg)
	wantAt(t, x, 1, 1)
}

func TestWhatIsGoneMakesRoom(t *testing.T) {
	x := crowded(t)
	wantErr(t, "Cancel", x.Cancel(7), api.OK)
	wantErr(t, "Set behind Cancel", x.Set(-1, 5), api.OK)
	wantErr(t, "Set of one more", x.Set(-2, 5), api.ErrMany)
	wantDue(t, x, 1, 0, 1)
	set(t, x, [2]int{-2, 5}, [2]int{-3, 5})
	wantErr(t, "Set of one more", x.Set(-4, 5), api.ErrMany)
	wantLen(t, x, 1000)
}

func TestCancelTakesOneAway(t *testing.T) {
	for gone := range 5 {
		x := made(t)
		var left []int
		for key := range 5 {
			set(t, x, [2]int{key, 10 + key})
			if key != gone {
				left = append(left, key)
			}
		}
		wantErr(t, "Cancel", x.Cancel(gone), api.OK)
		wantLen(t, x, 4)
		wantAt(t, x, gone, -1)
		wantErr(t, "Cancel again", x.Cancel(gone), api.ErrNone)
		wantNext(t, x, 10+left[0])
		wantDue(t, x, 20, left...)
	}
}

func TestCancelOfNoneChangesNothing(t *testing.T) {
	x := made(t)
	set(t, x, [2]int{1, 5}, [2]int{3, 4})
	for _, key := range []int{0, 2, -1, 4, 5, math.MinInt, math.MaxInt} {
		wantErr(t, "Cancel", x.Cancel(key), api.ErrNone)
	}
	wantLen(t, x, 2)
	wantDue(t, x, 5, 3, 1)
}

func TestSetBehindCancelMakesANewOne(t *testing.T) {
	x := made(t)
	set(t, x, [2]int{1, 5})
	wantErr(t, "Cancel", x.Cancel(1), api.OK)
	set(t, x, [2]int{1, 9})
	wantAt(t, x, 1, 9)
	wantDue(t, x, 8)
	wantDue(t, x, 9, 1)
}

// T2.2

func TestAtTellsEachOnesTick(t *testing.T) {
	x := made(t)
	for i := range 50 {
		set(t, x, [2]int{i, i * 31 % 50})
	}
	for i := range 50 {
		wantAt(t, x, i, i*31%50)
	}
	wantAt(t, x, 50, -1)
	wantAt(t, x, -1, -1)
	wantLen(t, x, 50)
}

func TestNextIsTheFirstOfAll(t *testing.T) {
	x := made(t)
	for _, s := range []struct{ key, at, next int }{{1, 1000000000, 1000000000}, {2, 7, 7}, {3, 9, 7}, {4, 0, 0}, {4, 8, 7}, {2, 10, 8}} {
		set(t, x, [2]int{s.key, s.at})
		wantNext(t, x, s.next)
	}
	for _, s := range []struct{ key, next int }{{3, 8}, {4, 10}, {2, 1000000000}, {1, -1}} {
		wantErr(t, "Cancel", x.Cancel(s.key), api.OK)
		wantNext(t, x, s.next)
	}
}

func TestAskingChangesNothing(t *testing.T) {
	x := made(t)
	set(t, x, [2]int{1, 5}, [2]int{2, 3})
	for range 3 {
		wantNext(t, x, 3)
		wantAt(t, x, 1, 5)
		wantAt(t, x, 2, 3)
		wantAt(t, x, 3, -1)
		wantLen(t, x, 2)
	}
	wantDue(t, x, 5, 2, 1)
}

func TestLenCountsTimersNotSets(t *testing.T) {
	x := made(t)
	for i := range 30 {
		set(t, x, [2]int{i % 3, i})
		wantLen(t, x, min(i+1, 3))
	}
	x.Due(27)
	wantLen(t, x, 2)
	x.Cancel(1)
	wantLen(t, x, 1)
}

// T2.3

func TestDueTakesThoseOfTheTickAndAheadOfIt(t *testing.T) {
	x := made(t)
	set(t, x, [2]int{1, 4}, [2]int{2, 5}, [2]int{3, 6})
	wantDue(t, x, 3)
	wantLen(t, x, 3)
	wantDue(t, x, 5, 1, 2)
	wantLen(t, x, 1)
	wantAt(t, x, 1, -1)
	wantAt(t, x, 2, -1)
	wantAt(t, x, 3, 6)
	wantNext(t, x, 6)
	wantErr(t, "Cancel of one that was due", x.Cancel(1), api.ErrNone)
	wantDue(t, x, 5)
	wantDue(t, x, 6, 3)
	wantNext(t, x, -1)
}

func TestDueTellsTheLesserKeyFirstOfOneTick(t *testing.T) {
	for _, at := range ticks {
		x := made(t)
		mixed := []int{0, math.MaxInt, -1, 1, math.MinInt, 1000000001, math.MaxInt - 1, -1000000001, math.MinInt + 1}
		for _, key := range mixed {
			set(t, x, [2]int{key, at})
		}
		wantDue(t, x, at-1)
		wantDue(t, x, at, keys...)
		wantLen(t, x, 0)
	}
}

func TestDueTellsTheTickAheadOfTheKey(t *testing.T) {
	x := made(t)
	set(t, x, [2]int{math.MinInt, 1000000000}, [2]int{math.MaxInt, 0}, [2]int{2, 1}, [2]int{1, 1}, [2]int{0, 2})
	wantDue(t, x, 1000000000, math.MaxInt, 1, 2, 0, math.MinInt)
}

func TestDueTakesAnyNow(t *testing.T) {
	for _, now := range []int{math.MinInt, -1000000001, -2, -1} {
		x := made(t)
		wantDue(t, x, now)
		set(t, x, [2]int{1, 0}, [2]int{-1, 0})
		wantDue(t, x, now)
		wantLen(t, x, 2)
	}
	for _, now := range []int{1000000000, 1000000001, math.MaxInt} {
		x := made(t)
		wantDue(t, x, now)
		set(t, x, [2]int{2, 1000000000}, [2]int{1, 1000000000}, [2]int{3, 0})
		wantDue(t, x, now, 3, 1, 2)
		wantDue(t, x, now)
	}
}

func TestDueGoesByNowAlone(t *testing.T) {
	x := made(t)
	wantDue(t, x, 100)
	set(t, x, [2]int{1, 50}, [2]int{2, 150})
	wantDue(t, x, 49)
	wantDue(t, x, 50, 1)
}

func TestDueOfAThousand(t *testing.T) {
	x := made(t)
	var want []int
	for i := range 1000 {
		set(t, x, [2]int{-i * 7 % 1000, 3})
		want = append(want, i-999)
	}
	wantDue(t, x, 2)
	wantDue(t, x, 3, want...)
	wantLen(t, x, 0)
	set(t, x, [2]int{1, 0})
	wantLen(t, x, 1)
}

func TestDueAnswersANewList(t *testing.T) {
	x := made(t)
	set(t, x, [2]int{1, 1}, [2]int{2, 1}, [2]int{3, 2}, [2]int{4, 2})
	first := x.Due(1)
	first[0], first[1] = 40, 50
	_ = append(first, 60, 70)
	wantDue(t, x, 2, 3, 4)
	if !slices.Equal(first, []int{40, 50}) {
		t.Errorf("the first answer became %v", first)
	}
}

func TestSetBehindDueMakesANewOne(t *testing.T) {
	x := made(t)
	set(t, x, [2]int{1, 5})
	wantDue(t, x, 5, 1)
	set(t, x, [2]int{1, 4})
	wantAt(t, x, 1, 4)
	wantDue(t, x, 5, 1)
	wantDue(t, x, 5)
}

// P1

func TestTimersThatNewDidNotMake(t *testing.T) {
	var x timer.Timers
	wantLen(t, &x, 0)
	wantNext(t, &x, -1)
	wantAt(t, &x, 0, -1)
	wantErr(t, "Cancel", x.Cancel(0), api.ErrNone)
	wantDue(t, &x, math.MaxInt)
	set(t, &x, [2]int{1, 5}, [2]int{2, 5})
	wantDue(t, &x, 5, 1, 2)
}

// The chapter's examples

func TestExampleOfAnOrder(t *testing.T) {
	x := made(t)
	set(t, x, [2]int{7, 5}, [2]int{3, 5}, [2]int{9, 2})
	wantNext(t, x, 2)
	wantDue(t, x, 4, 9)
	wantDue(t, x, 5, 3, 7)
	wantLen(t, x, 0)
}

func TestExampleOfOneSetAnew(t *testing.T) {
	x := made(t)
	set(t, x, [2]int{1, 5}, [2]int{1, 9})
	wantAt(t, x, 1, 9)
	wantDue(t, x, 8)
	wantErr(t, "Cancel", x.Cancel(1), api.OK)
	wantErr(t, "Cancel", x.Cancel(1), api.ErrNone)
	wantAt(t, x, 1, -1)
}

func TestExampleOfWrongTicks(t *testing.T) {
	x := made(t)
	wantErr(t, "Set", x.Set(1, -1), api.ErrArg)
	wantErr(t, "Set", x.Set(1, 1000000001), api.ErrArg)
}
