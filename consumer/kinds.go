package consumer

import "logboom/api"

// Kinds of calls.
const (
	Read   = 1 // the record at Offset of Part
	Join   = 2 // the group Name
	Leave  = 3
	Commit = 4  // Offset of Part in the group Name
	Offset = 5  // of Part in the group Name
	Delete = 6  // Part's records ahead of Offset
	Create = 7  // the topic Name: Part partitions, Offset replicas, Seq the least in sync
	Move   = 8  // Part to the replicas Text
	Stay   = 9  // Part's move is cancelled
	Send   = 10 // (a producer's)
)

// Whom a call asks: the aims of partitions are their ids, these two stand behind them.
const (
	controller = api.MaxParts + 1 + iota
	coordinator
	aims
)

// Records of metadata, as a client asks for them.
const (
	topicRecord = 4
	moveRecord  = 6
	stayRecord  = 7
)

// A group's records have the numbers of the calls of groups, less this.
const groupShift = Join - 1

// The first partition that a group may read: the one ahead of it is the coordinator's.
const firstPart = api.Offsets + 1

// isRight tells whether a call may be begun.
func isRight(s api.Seen) bool {
	if s.Kind < Read || s.Kind > Stay || len(s.Name) > api.MaxName || s.Part > api.MaxParts {
		return false
	}
	if s.Kind == Move {
		if _, ok := readList(s.Text); !ok {
			return false
		}
	}
	return isNumber(s.Part) && isNumber(s.Offset) && isNumber(s.Pid) && isNumber(s.Seq)
}

func isNumber(n int) bool { return n >= 0 && n <= api.MaxOffset }

// isHarmless tells whether what a call asks may come twice without harm.
func isHarmless(kind int) bool { return kind == Read || kind == Offset || kind == Delete }

func isOfGroup(kind int) bool { return kind >= Join && kind <= Offset }

// aim is whom a call asks.
func aim(s api.Seen) int {
	switch {
	case isOfGroup(s.Kind):
		return coordinator
	case s.Kind == Read || s.Kind == Delete:
		return s.Part
	}
	return controller
}

// message is what a call asks, but for who asks whom.
func message(s api.Seen) api.Msg {
	switch s.Kind {
	case Read:
		return api.Msg{Kind: api.ReadAsk, Part: s.Part, Offset: s.Offset}
	case Delete:
		return api.Msg{Kind: api.DeleteAsk, Part: s.Part, Offset: s.Offset}
	case Create:
		return api.Msg{Kind: api.AdminAsk, Index: topicRecord, Name: s.Name, High: s.Part, Seq: s.Offset, Pid: s.Seq}
	case Move:
		to, _ := readList(s.Text)
		return api.Msg{Kind: api.AdminAsk, Index: moveRecord, High: s.Part, Ints: to}
	case Stay:
		return api.Msg{Kind: api.AdminAsk, Index: stayRecord, High: s.Part}
	}
	return groupMessage(s)
}

func groupMessage(s api.Seen) api.Msg {
	m := api.Msg{Kind: api.GroupAsk, Index: s.Kind - groupShift, Name: s.Name, Pid: s.Pid, Seq: s.Seq, Offset: s.Offset}
	switch s.Kind {
	case Join:
		for part := firstPart; part <= s.Part; part++ {
			m.Ints = append(m.Ints, part)
		}
		return m
	case Commit:
		m.Ints = []int{s.Call}
	}
	m.High = s.Part
	return m
}
