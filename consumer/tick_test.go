package consumer_test

import (
	"math"
	"slices"
	"testing"

	"logboom/api"
	"logboom/consumer"
)

// harmless are the kinds that may come twice.
func harmless() []int { return l(consumer.Read, consumer.Offset, consumer.Delete) }

// failed is a call that ended with an error: what was asked is told.
func failed(n int, err api.Errno, s api.Seen) api.Seen {
	s.Text = ""
	return returned(n, err, s)
}

// P19.2: what is harmless and not answered is asked anew when its time is up, of one broker behind the other, round and round, by new numbers; then it is late.
func TestTickOfHarmless(t *testing.T) {
	for _, kind := range harmless() {
		c := made(t, l(2, 3, 5), 10, 5)
		s := kinds()[kind-1]
		m := call(t, c, 100, s)
		silent(t, c, 100, 109, 0, math.MinInt)
		want(t, c.Tick(110), again(m, 3, 2))
		silent(t, c, 110, 119)
		want(t, c.Tick(125), again(m, 5, 3))
		silent(t, c, 134)
		want(t, c.Tick(135), again(m, 2, 4))
		want(t, c.Tick(145), again(m, 3, 5))
		silent(t, c, 154)
		wantDone(t, c, 1)
		silent(t, c, 155)
		wantDone(t, c, 0, failed(1, api.ErrLate, s))
		silent(t, c, 156, 1000, math.MaxInt)
		// The aim stays where it was.
		asked(t, call(t, c, 200, s), again(m, 3, 6))
	}
}

// P19.2: what may change something is late as soon as its time is up, whatever tries are left.
func TestTickOfOthers(t *testing.T) {
	for _, s := range kinds() {
		if slices.Contains(harmless(), s.Kind) {
			continue
		}
		c := made(t, l(1, 2), 7, 1000)
		m := call(t, c, 3, s)
		silent(t, c, 3, 9)
		wantDone(t, c, 1)
		silent(t, c, 10)
		wantDone(t, c, 0, failed(1, api.ErrLate, s))
		silent(t, c, 11, 20)
		// The aim stays: only what is asked anew moves it.
		m.Id = 2
		if s.Kind == consumer.Commit {
			m.Ints = l(2)
		}
		asked(t, call(t, c, 20, s), m)
	}
}

// P19.2: what was refused is asked anew, as nothing was done; what was asked anew has to be refused anew.
func TestTickOfRefused(t *testing.T) {
	for _, s := range kinds() {
		c := made(t, l(1, 2, 4), 10, 4)
		m := call(t, c, 0, s)
		step(t, c, 3, hint(m, api.ErrLeader, 0))
		silent(t, c, 12)
		want(t, c.Tick(13), again(m, 2, 2))
		step(t, c, 14, hint(again(m, 2, 2), api.ErrCoord, 1))
		want(t, c.Tick(15), again(m, 1, 3))
		if slices.Contains(harmless(), s.Kind) {
			want(t, c.Tick(25), again(m, 2, 4))
			silent(t, c, 34)
			wantDone(t, c, 1)
		} else {
			silent(t, c, 24)
			wantDone(t, c, 1)
			silent(t, c, 25)
			wantDone(t, c, 0, failed(1, api.ErrLate, s))
		}
	}
}

// P19.2: refusals cost tries: without one left the call is late, also if it was refused.
func TestRefusalsCostTries(t *testing.T) {
	for _, s := range kinds() {
		c := made(t, l(1, 2), 10, 2)
		m := call(t, c, 0, s)
		step(t, c, 0, hint(m, api.ErrLeader, 2))
		want(t, c.Tick(1), again(m, 2, 2))
		step(t, c, 1, hint(again(m, 2, 2), api.ErrLeader, 1))
		silent(t, c, 1)
		wantDone(t, c, 1)
		silent(t, c, 2)
		wantDone(t, c, 0, failed(1, api.ErrLate, s))
		// The aim is where the last hint told.
		if m := call(t, c, 3, s); m.To != 1 || m.Id != 3 {
			t.Error(show([]api.Msg{m}))
		}
	}
}

// P19.2: of one try nothing is asked anew.
func TestTickOfOneTry(t *testing.T) {
	for _, s := range kinds() {
		c := made(t, l(1, 2), 1, 1)
		call(t, c, 0, s)
		silent(t, c, 0)
		wantDone(t, c, 1)
		silent(t, c, 1)
		wantDone(t, c, 0, failed(1, api.ErrLate, s))
	}
}

// P19.2: calls are gone through in their order, whichever were asked anew of late.
func TestTickKeepsOrder(t *testing.T) {
	c := made(t, l(1, 2), 10, 3)
	x, y := call(t, c, 0, read(5, 1)), call(t, c, 1, read(3, 2))
	leave := api.Seen{Kind: consumer.Leave, Name: "g"}
	call(t, c, 2, leave)
	z := call(t, c, 2, read(4, 3))
	want(t, c.Tick(10), again(x, 2, 5))
	want(t, c.Tick(12), again(y, 2, 6), again(z, 2, 7))
	wantDone(t, c, 3, failed(3, api.ErrLate, leave))
	want(t, c.Tick(22), again(x, 1, 8), again(y, 1, 9), again(z, 1, 10))
	w := call(t, c, 22, read(2, 4))
	silent(t, c, 31)
	want(t, c.Tick(32), again(w, 2, 12))
	wantDone(t, c, 1, failed(1, api.ErrLate, read(5, 1)), failed(2, api.ErrLate, read(3, 2)), failed(4, api.ErrLate, read(4, 3)))
}

// P19.2: calls of one aim move it once, and then go where it is.
func TestTickOfOneAim(t *testing.T) {
	c := made(t, l(1, 2, 3), 10, 9)
	x, y := call(t, c, 0, read(2, 1)), call(t, c, 0, read(2, 2))
	z := call(t, c, 5, read(2, 3))
	want(t, c.Tick(10), again(x, 2, 4), again(y, 2, 5))
	want(t, c.Tick(15), again(z, 2, 6))
	// An answer's hint is nobody's to move on from but of whom was asked there.
	step(t, c, 16, hint(again(x, 2, 4), api.ErrLeader, 3))
	want(t, c.Tick(17), again(x, 3, 7))
	want(t, c.Tick(20), again(y, 3, 8))
	want(t, c.Tick(25), again(z, 3, 9))
	want(t, c.Tick(27), again(x, 1, 10))
}

// P19.2: an aim that an answer moved stays there, one that points where it was asked moves on.
func TestTickAims(t *testing.T) {
	c := made(t, l(1, 2, 4), 10, 9)
	m := call(t, c, 0, read(2, 0))
	for _, x := range []struct{ last, due, to int }{
		{4, 1, 4},  // a hint: there, soon
		{4, 1, 1},  // a hint to itself: one behind
		{0, 10, 2}, // no hint: one behind, when its time is up
		{3, 10, 4}, // a hint that is none
	} {
		step(t, c, 100, hint(m, api.ErrLeader, x.last))
		silent(t, c, 100+x.due-1)
		m.To, m.Id = x.to, m.Id+1
		want(t, c.Tick(100+x.due), m)
	}
}

// P6: ticks go round.
func TestTicksGoRound(t *testing.T) {
	c := made(t, l(1, 2), 10, 5)
	m := call(t, c, math.MaxInt-3, read(2, 0))
	// Its deadline is far below.
	want(t, c.Tick(math.MaxInt-3), again(m, 2, 2))
	silent(t, c, math.MinInt+5)
	want(t, c.Tick(math.MinInt+6), again(m, 1, 3))
	step(t, c, math.MaxInt, hint(again(m, 1, 3), api.ErrLeader, 2))
	want(t, c.Tick(math.MinInt), again(m, 2, 4))
}

// A tick at which nothing is due changes nothing.
func TestTickOfNothing(t *testing.T) {
	c := made(t, l(1), 10, 3)
	silent(t, c, append(wild(), 0, 1, 2)...)
	wantDone(t, c, 0)
	asked(t, call(t, c, 0, read(2, 0)), readAsk(1, 1, 2, 0))
}
