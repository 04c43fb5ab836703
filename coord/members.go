package coord

import (
	"slices"
	"strings"

	"logboom/api"
	"logboom/groups"
)

// seat is a member's place in a group.
type seat struct {
	group string
	id    int
}

// stay is what is known of a member that was seen, or is leaving.
type stay struct {
	seen    int
	leaving bool
}

// seatOf is where a request says that it comes from.
func seatOf(m api.Msg) seat { return seat{m.Name, m.Pid} }

// isTaken tells whether there is such a member.
func (c *Coord) isTaken(s seat) bool {
	return slices.Contains(c.groups.Members(s.group), s.id)
}

// seats are those of all members, by rising groups and ids.
func (c *Coord) seats() []seat {
	var list []seat
	for _, name := range c.groups.Names() {
		for _, id := range c.groups.Members(name) {
			list = append(list, seat{name, id})
		}
	}
	return list
}

// see notes that a member was seen. The name may be a piece of a client's text: it is not kept.
func (c *Coord) see(now int, s seat) {
	s.group = strings.Clone(s.group)
	x := c.stays[s]
	x.seen = now
	c.stays[s] = x
}

// seeAll has each member begin its session: of what it told the coordinator ahead of this one nothing is known.
func (c *Coord) seeAll(now int) {
	for _, s := range c.seats() {
		c.see(now, s)
	}
}

// beats is what comes of a beat.
func (c *Coord) beats(now int, m api.Msg) groups.Told {
	s := seatOf(m)
	switch {
	case !c.isTaken(s):
		return groups.Told{Err: api.ErrMember}
	case m.Seq != c.groups.Gen(m.Name):
		return groups.Told{Err: api.ErrGen}
	}
	c.see(now, s)
	return groups.Told{Member: m.Pid, Gen: m.Seq}
}

// dismissSilent writes for those that were silent that they leave.
func (c *Coord) dismissSilent(now int) {
	for _, s := range c.seats() {
		if !c.isSilent(now, s) {
			continue
		}
		// An error is passed over: nobody waits for this record.
		c.write(now, api.Meta{Kind: groups.Leave, Name: s.group, A: s.id})
		x := c.stays[s]
		x.leaving = true
		c.stays[s] = x
	}
}

// isSilent tells whether a member was not seen for a session, and that it leaves is not written yet.
func (c *Coord) isSilent(now int, s seat) bool {
	x, ok := c.stays[s]
	return !ok || !x.leaving && now-x.seen >= c.session
}
