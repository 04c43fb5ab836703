package consumer_test

import (
	"strings"
	"testing"

	"logboom/api"
	"logboom/consumer"
)

// P19.1: what may be made, and what not.
func TestNew(t *testing.T) {
	type made struct {
		id          int
		brokers     []int
		wait, tries int
	}
	for _, x := range []made{
		{101, l(1), 1, 1}, {999, l(7), api.MaxTick, 1000}, {500, l(1, 2, 3, 4, 5, 6, 7), 10, 10}, {201, l(2, 5), 1, 1000},
	} {
		c, e := consumer.New(x.id, x.brokers, x.wait, x.tries)
		if c == nil || e != api.OK {
			t.Fatal(x, e)
		}
		wantDone(t, c, 0)
		silent(t, c, 0)
	}
	wrong := []made{
		{0, l(1), 1, 1}, {1, l(1), 1, 1}, {100, l(1), 1, 1}, {1000, l(1), 1, 1},
		{101, nil, 1, 1}, {101, l(), 1, 1}, {101, l(0), 1, 1}, {101, l(8), 1, 1}, {101, l(0, 1), 1, 1}, {101, l(1, 8), 1, 1},
		{101, l(1, 1), 1, 1}, {101, l(2, 1), 1, 1}, {101, l(1, 3, 2), 1, 1}, {101, l(1, 2, 3, 4, 5, 6, 7, 7), 1, 1}, {101, l(1, 2, 3, 4, 5, 6, 7, 8), 1, 1},
		{101, l(1), 0, 1}, {101, l(1), api.MaxTick + 1, 1}, {101, l(1), 1, 0}, {101, l(1), 1, 1001},
	}
	for _, n := range wild() {
		wrong = append(wrong, made{n, l(1), 1, 1}, made{101, l(n), 1, 1}, made{101, l(1), 1, n})
		if n != api.MaxTick {
			wrong = append(wrong, made{101, l(1), n, 1})
		}
	}
	for _, x := range wrong {
		if c, e := consumer.New(x.id, x.brokers, x.wait, x.tries); c != nil || e != api.ErrArg {
			t.Error(x, c, e)
		}
	}
}

// refuse asks that a call is refused with an error, and changes nothing.
func refuse(t *testing.T, c *consumer.Consumer, s api.Seen, err api.Errno) {
	t.Helper()
	open := c.Open()
	if n, list, e := c.Call(0, s); n != 0 || len(list) != 0 || e != err {
		t.Fatalf("of %+v told is %d %v %v, and not %v", s, n, list, e, err)
	}
	wantDone(t, c, open)
}

// wrongCalls are such as may not be.
func wrongCalls() []api.Seen {
	var list []api.Seen
	for _, n := range append(wild(), 0, 10, 11) {
		list = append(list, api.Seen{Kind: n, Part: 2, Text: "1"})
	}
	for _, s := range kinds() {
		for _, field := range []*int{&s.Part, &s.Offset, &s.Pid, &s.Seq} {
			was := *field
			for _, n := range wild() {
				if *field = n; n != api.MaxOffset || field == &s.Part {
					list = append(list, s)
				}
			}
			*field = was
		}
		s.Part = 17
		list = append(list, s)
		s.Part, s.Name = 16, strings.Repeat("n", 33)
		list = append(list, s)
	}
	return list
}

// P19.1: what may be asked, and what not.
func TestCallErrors(t *testing.T) {
	c := made(t, l(1), 10, 3)
	for _, s := range wrongCalls() {
		refuse(t, c, s, api.ErrArg)
	}
	for _, s := range kinds() {
		for _, field := range []*int{&s.Part, &s.Offset, &s.Pid, &s.Seq} {
			was := *field
			for _, n := range l(0, 1, 16, api.MaxOffset) {
				if *field = n; n <= 16 || field != &s.Part {
					c := made(t, l(1), 10, 3)
					call(t, c, 0, s)
				}
			}
			*field = was
		}
		for _, name := range []string{"", "N", "\x00\xff", strings.Repeat("n", 32)} {
			s.Name = name
			call(t, made(t, l(1), 10, 3), 0, s)
		}
	}
}

// texts of lists that a move may be asked with, and of what is none.
func moves() (map[string][]int, []string) {
	right := map[string][]int{
		"0": l(0), "7": l(7), "10": l(10), "999": l(999), "100": l(100), "1,2": l(1, 2), "3,3,0": l(3, 3, 0), "1,2,3,4,5,6,7": l(1, 2, 3, 4, 5, 6, 7),
		"999,998,997,996,995,994,993": l(999, 998, 997, 996, 995, 994, 993),
	}
	wrong := []string{
		"", ",", "1,", ",1", "1,,2", "00", "01", "000", "1,02", "007", "1000", "1,1000", "0999", "-1", "+1", "1 ", " 1", "1, 2", "1;2", "1.2", "a", "1a", "a1", "1,b", "/", ":", "1:", "/1",
		"1,2,3,4,5,6,7,8", "1,2,3,4,5,6,7,", "0x1", "1e1", "1_0", "\x00", "1\x00", "\xff", "٣", "１", "1\n", strings.Repeat("1,", 100000), strings.Repeat("1", 100000), strings.Repeat(",", 8), strings.Repeat(",", 100000),
	}
	return right, wrong
}

// P19.1: a move is asked with a list as a text; other calls may have any text.
func TestCallOfMoves(t *testing.T) {
	right, wrong := moves()
	for text, ints := range right {
		c := made(t, l(1), 10, 3)
		m := call(t, c, 0, api.Seen{Kind: consumer.Move, Part: 3, Text: text})
		asked(t, m, api.Msg{Kind: api.AdminAsk, From: 102, To: 1, Id: 1, Index: 6, High: 3, Ints: ints})
	}
	for _, text := range wrong {
		c := made(t, l(1), 10, 3)
		for kind := consumer.Read; kind <= consumer.Stay; kind++ {
			s := api.Seen{Kind: kind, Text: text}
			if kind == consumer.Move {
				refuse(t, c, s, api.ErrArg)
			} else {
				call(t, c, 0, s)
			}
		}
	}
}

// P19.1: twenty calls may be open; what may not be asked is told first.
func TestCallMany(t *testing.T) {
	c := made(t, l(1, 2), 10, 3)
	for i := range 20 {
		n, list, e := c.Call(0, kinds()[i%9])
		if n != i+1 || len(list) != 1 || list[0].Id != i+1 || e != api.OK {
			t.Fatal(i, n, e, show(list))
		}
	}
	for _, s := range kinds() {
		refuse(t, c, s, api.ErrMany)
	}
	for _, s := range wrongCalls() {
		refuse(t, c, s, api.ErrArg)
	}
	refuse(t, c, api.Seen{Kind: consumer.Move, Text: "x"}, api.ErrArg)
	// As soon as one has ended there is room for another one; it need not be told ahead.
	step(t, c, 1, tell(readAsk(1, 10, 6, 5), api.ErrArg))
	n, list, e := c.Call(1, read(2, 0))
	if n != 21 || e != api.OK {
		t.Error(n, e)
	}
	want(t, list, readAsk(1, 21, 2, 0))
	if c.Open() != 20 || len(c.Done()) != 1 {
		t.Error(c.Open())
	}
	refuse(t, c, read(2, 0), api.ErrMany)
}

// P19.1: what was refused is neither counted nor asked.
func TestRefusedIsNotAsked(t *testing.T) {
	c := made(t, l(1), 10, 3)
	refuse(t, c, api.Seen{}, api.ErrArg)
	silent(t, c, 100)
	asked(t, call(t, c, 0, read(2, 1)), readAsk(1, 1, 2, 1))
	step(t, c, 0, tell(readAsk(1, 1, 2, 1), api.ErrArg))
	wantDone(t, c, 0, returned(1, api.ErrArg, read(2, 1)))
}

// What is asked: of each kind the table's fields, and nothing else.
func TestWhatIsAsked(t *testing.T) {
	asks := []api.Msg{
		{Kind: api.ReadAsk, Part: 6, Offset: 5},
		{Kind: api.GroupAsk, Index: 1, Name: "n", Pid: 4, Seq: 3, Offset: 5, Ints: l(2, 3, 4, 5, 6)},
		{Kind: api.GroupAsk, Index: 2, Name: "n", Pid: 4, Seq: 3, High: 6, Offset: 5},
		{Kind: api.GroupAsk, Index: 3, Name: "n", Pid: 4, Seq: 3, High: 6, Offset: 5, Ints: l(4)},
		{Kind: api.GroupAsk, Index: 4, Name: "n", Pid: 4, Seq: 3, High: 6, Offset: 5},
		{Kind: api.DeleteAsk, Part: 6, Offset: 5},
		{Kind: api.AdminAsk, Index: 4, Name: "n", High: 6, Seq: 5, Pid: 3},
		{Kind: api.AdminAsk, Index: 6, High: 6, Ints: l(2, 1)},
		{Kind: api.AdminAsk, Index: 7, High: 6},
	}
	c := made(t, l(3, 5), 10, 3)
	for i, s := range kinds() {
		s.Client, s.Call, s.PidEpoch, s.Err, s.Done = 7, 8, 9, api.ErrArg, true
		asks[i].From, asks[i].To, asks[i].Id = 102, 3, i+1
		asked(t, call(t, c, 0, s), asks[i])
	}
	// The same is asked anew.
	var list []api.Msg
	for i, m := range asks {
		step(t, c, 5, hint(m, api.ErrLeader, 0))
		list = append(list, again(m, 5, 10+i))
	}
	want(t, c.Tick(15), list...)
}

// What is asked of a group to be joined: the partitions behind the coordinator's.
func TestJoinAsks(t *testing.T) {
	for part := range 17 {
		var ints []int
		for id := 2; id <= part; id++ {
			ints = append(ints, id)
		}
		asked(t, call(t, made(t, l(1), 10, 3), 0, api.Seen{Kind: consumer.Join, Name: "g", Part: part}), groupAsk(1, 1, 1, "g", ints))
	}
}

// Of a commit its call's number is asked, the same each time.
func TestCommitAsks(t *testing.T) {
	c := made(t, l(1, 2), 10, 3)
	commit := api.Seen{Kind: consumer.Commit, Name: "g"}
	call(t, c, 0, read(2, 0))
	call(t, c, 0, read(2, 0))
	asked(t, call(t, c, 5, commit), groupAsk(1, 3, 3, "g", l(3)))
	c.Tick(10)
	asked(t, call(t, c, 10, commit), groupAsk(1, 6, 3, "g", l(4)))
	step(t, c, 10, hint(groupAsk(1, 3, 3, "g", nil), api.ErrCoord, 2))
	want(t, c.Tick(11), groupAsk(2, 7, 3, "g", l(3)))
}

// Of whom is asked: the controller, who coordinates groups, and each partition's leader are known apart.
func TestAims(t *testing.T) {
	var all []api.Seen
	aims := map[int]int{} // by the place in all
	for i, s := range kinds() {
		all = append(all, s)
		aims[i] = l(6, 20, 20, 20, 20, 6, 30, 30, 30)[i]
	}
	for part := range 17 {
		for _, kind := range l(consumer.Read, consumer.Delete) {
			aims[len(all)] = part
			all = append(all, api.Seen{Kind: kind, Part: part})
		}
	}
	for i, s := range all {
		c := made(t, l(1, 2, 3), 10, 9)
		step(t, c, 0, hint(call(t, c, 0, s), api.ErrLeader, 3))
		c.Tick(1)
		for k, x := range all {
			to := 1
			if aims[k] == aims[i] {
				to = 3
			}
			m := call(t, c, 1, x)
			if m.To != to {
				t.Fatalf("behind %+v told is %d, and not %d, of %+v", s, m.To, to, x)
			}
			step(t, c, 1, tell(m, api.ErrArg))
		}
	}
}
