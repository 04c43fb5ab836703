package broker_test

import (
	"math/rand"
	"testing"

	"logboom/api"
	"logboom/dedup"
	"logboom/disk"
	"logboom/meta"
	"logboom/wire"
)

// fed is one broker and its paper, to which all is told that other brokers may tell, and much that they never would.
type fed struct {
	*twins
	x        *twin
	asks     map[int]api.Msg // the last that it asked of each partition
	follows  bool            // others tell it of entries, instead of voting for it
	isTimely bool            // no time is far from the one ahead
}

func newFed(t *testing.T, c chance, told map[string]int) *fed {
	t.Helper()
	w := &fed{twins: &twins{chance: c, t: t, told: told}, asks: map[int]api.Msg{}, isTimely: c.Intn(4) > 0}
	w.c = config([][]int{{1}, {1, 2, 3}, {1, 2, 3}, {2, 3, 5}, {1, 2, 3, 4, 5, 6, 7}}[c.Intn(5)]...)
	w.c.Beat, w.c.Session, w.c.Segment = c.of(1, 3, 5), c.of(6, 30), c.of(256, 1000)
	w.now = c.of(0, 0, 0, 1000, -40)
	w.x = &twin{id: w.c.Brokers[c.Intn(len(w.c.Brokers))]}
	size := c.of(3000, 200000, 200000, 200000)
	w.x.d = [2]*disk.Disk{newDisk(t, size), newDisk(t, size)}
	w.all = []*twin{w.x}
	w.begin(w.x)
	return w
}

// other is mostly another broker's id.
func (w *fed) other() int {
	if id := w.of(w.c.Brokers...); id != w.x.id {
		return id
	}
	return 1 + w.Intn(8)
}

// part is mostly one that there is.
func (w *fed) part() api.Part {
	if list := w.x.p.im.Parts(); len(list) > 0 {
		return list[w.Intn(len(list))]
	}
	return api.Part{Id: 1 + w.Intn(3)}
}

// record is one of metadata, mostly one that does something.
func (w *fed) record() api.Meta {
	id := w.of(w.x.id, w.x.id, w.other())
	life, _ := w.x.p.im.Life(id)
	p := w.part()
	switch w.Intn(12) {
	case 0:
		if id == w.x.id && w.Intn(20) > 0 {
			life = w.x.life - 1
		}
		return api.Meta{Kind: meta.Register, A: id, B: life + 1}
	case 1, 2, 3:
		return api.Meta{Kind: meta.Unfence, A: id, B: life}
	case 10, 11:
		return api.Meta{Kind: meta.Alter, A: p.Id, B: p.Leader, C: p.Epoch, D: p.Version, List: append([]int{p.Leader}, w.some(3)...)}
	case 4:
		return api.Meta{Kind: meta.Fence, A: id, B: life}
	case 5:
		return api.Meta{Kind: meta.Topic, Name: w.name(), A: 1 + w.Intn(3), B: 1 + w.Intn(2), C: 1}
	case 6:
		return api.Meta{Kind: meta.Alter, A: p.Id, B: p.Leader, C: p.Epoch, D: p.Version, List: p.Replicas}
	case 7:
		return api.Meta{Kind: meta.Move, A: p.Id, List: w.some(7)}
	case 8:
		return api.Meta{Kind: w.of(meta.Stay, meta.Done, meta.Prefer), A: p.Id}
	}
	return api.Meta{Kind: meta.Pid}
}

// data is an entry's.
func (w *fed) data() string {
	switch w.Intn(12) {
	case 0:
		return ""
	case 1:
		return "no record"
	}
	s, _ := wire.Meta(w.record())
	return s
}

// vote is what a candidate waits for.
func (w *fed) vote() api.Msg {
	return api.Msg{Kind: api.VoteTell, From: w.other(), Term: w.x.p.n.Term()}
}

// appends are entries of another leader.
func (w *fed) appends() api.Msg {
	log := w.x.p.log
	index, term := log.Last()
	if w.Intn(6) == 0 {
		index = max(w.x.p.n.Commit(), index-w.Intn(3))
		if x, ok := log.At(index); ok {
			term = x.Term
		}
	}
	m := api.Msg{Kind: api.AppendAsk, From: w.other(), Term: w.x.p.n.Term(), Index: index, Last: term}
	if w.x.b.Controls() {
		m.Term += w.of(0, 0, 0, 1)
	}
	if w.Intn(100) == 0 {
		m.Index++
	}
	for range w.of(0, 1, 1, 2, 20) {
		m.Entries = append(m.Entries, api.Entry{Term: m.Term, Index: index + len(m.Entries) + 1, Data: w.data()})
	}
	m.High = max(0, index+len(m.Entries)-w.of(0, 0, 0, 1, 2))
	return m
}

// snap is another leader's snapshot: some more records, or no image.
func (w *fed) snap() api.Msg {
	im := w.x.p.im.Clone()
	if w.Intn(8) == 0 {
		im = meta.New()
	}
	for range w.Intn(8) {
		im.Apply(w.record())
	}
	m := api.Msg{Kind: api.SnapAsk, From: w.other(), Term: w.x.p.n.Term(), Text: im.Keep()}
	m.Last = m.Term
	m.Index = w.x.p.n.Commit() + w.of(0, 1, 1, 3)
	if w.Intn(4) == 0 {
		m.Text = "no image"
	}
	return m
}

// agrees is what a leader of brokers waits for.
func (w *fed) agrees() api.Msg {
	m := api.Msg{Kind: api.AppendTell, From: w.other(), Term: w.x.p.n.Term()}
	m.Index, _ = w.x.p.log.Last()
	if w.Intn(5) == 0 {
		m.Err, m.Index = api.ErrOrder, w.Intn(3)
	}
	return m
}

// fetch is another broker's, of what the broker leads.
func (w *fed) fetch() api.Msg {
	p := w.part()
	m := api.Msg{Kind: api.FetchAsk, From: w.of(append(p.Replicas, w.other())...), Part: p.Id, Epoch: p.Epoch + w.of(0, 0, 0, 0, -1, 1), Last: -1}
	if s := w.x.p.stores[p.Id]; s != nil {
		m.Offset, m.Last, m.Start = max(0, s.Log().Next()-w.of(0, 0, 0, 1)), s.Cache().Last(), s.Log().Start()
	}
	m.Seq = w.of(0, 1, 9)
	return m
}

// fetched is an answer to what the broker asked.
func (w *fed) fetched() api.Msg {
	ask := w.asks[1+w.Intn(3)]
	m := api.Msg{Kind: api.FetchTell, From: ask.To, Id: ask.Id, Part: ask.Part, Epoch: ask.Epoch, Pid: ask.Pid, PidEpoch: ask.PidEpoch}
	switch w.Intn(8) {
	case 0:
		m.Err, m.Start, m.Text = api.ErrRange, ask.Offset+w.Intn(3), dedup.New().Keep()
	case 1:
		m.Err, m.Last, m.Index = api.ErrOrder, -1, max(0, ask.Offset-1)
	case 2:
		m.Err = api.Errno(w.of(int(api.ErrFenced), int(api.ErrLeader)))
	default:
		at := ask.Offset
		for range w.Intn(3) {
			b := w.batch()
			b.Base, b.Epoch = at, ask.Epoch
			at += len(b.Records)
			m.Batches = append(m.Batches, b)
		}
		m.High, m.Index = max(0, at-w.Intn(2)), w.Intn(3)
		m.Start = w.of(0, 0, 0, m.High)
	}
	return m
}

// beats is what brokers tell the controller.
func (w *fed) beats() api.Msg {
	p := w.part()
	id := w.of(w.other(), p.Leader)
	if w.Intn(2) == 0 {
		return api.Msg{Kind: api.AlterAsk, From: id, Part: p.Id, Epoch: p.Epoch, Offset: p.Version, Ints: p.Replicas}
	}
	life, _ := w.x.p.im.Life(id)
	return api.Msg{Kind: api.BeatAsk, From: w.of(id, id, id, id, 102), Index: max(0, life+w.of(0, 0, 0, 1, -1))}
}

// spoil makes one thing of a message another.
func (w *fed) spoil(m *api.Msg) {
	n := w.of(append(wild(), 0, 1, 2, 17, 64)...)
	fields := []*int{&m.Kind, &m.From, &m.To, &m.Id, &m.Part, &m.Epoch, &m.Offset, &m.Last, &m.Start, &m.High, &m.Term, &m.Index, &m.Pid, &m.PidEpoch, &m.Seq}
	switch i := w.Intn(len(fields) + 5); {
	case i < len(fields):
		*fields[i] = n
	case i == len(fields):
		m.Err = api.Errno(w.of(n, w.Intn(25)))
	case i == len(fields)+1:
		m.Name = string(make([]byte, 33))
	case i == len(fields)+2:
		m.Text = "text"
	case i == len(fields)+3:
		m.Ints = make([]int, w.of(1, 256, 257))
	default:
		m.Batches = []api.Batch{w.batch(), {}}
	}
}

// message is one to the broker.
func (w *fed) message() api.Msg {
	draws := []func() api.Msg{w.vote, w.agrees, w.agrees, w.agrees, w.beats, w.beats}
	if w.follows {
		draws = []func() api.Msg{w.appends, w.appends, w.appends, w.appends, w.appends, w.snap}
	}
	draws = append(draws, w.fetch, w.fetch, w.fetched, w.fetched)
	m := w.request(3)
	if i := w.Intn(len(draws) + 5); i < len(draws) {
		m = draws[i]()
	}
	m.To = w.x.id
	// Few of them, else no log lives long.
	if m.Kind == api.SnapAsk && w.Intn(6) > 0 {
		m.Index = w.x.p.n.Commit()
	}
	if w.Intn(25) == 0 {
		w.spoil(&m)
	}
	return m
}

// act does one thing to both.
func (w *fed) act() {
	w.t.Helper()
	x := w.x
	switch n := w.Intn(1000); {
	case n < 250:
		w.now += w.of(0, 1, 1, 2, 5)
		w.tick(x)
	case n < 990:
		m := w.message()
		w.what = "Step " + show([]api.Msg{m})
		w.hold(x, x.b.Step(w.now, m), x.p.step(w.now, m))
	case n < 994:
		w.stuff(x)
	case n < 996 && w.isTimely:
		w.now += 10
	case n < 996:
		w.now = w.of(append(wild(), 0, 100, 200)...)
	case n < 999:
		w.follows = !w.follows
	default:
		w.crash(x)
		if x.b == nil {
			w.begin(x)
		}
	}
	for _, m := range w.net {
		if m.Kind == api.FetchAsk {
			w.asks[m.Part] = m
		}
	}
	w.net = nil
}

// E1 to E8: a broker to which anything is told.
func TestAnyMessages(t *testing.T) {
	told := map[string]int{}
	for seed := range 40 {
		w := newFed(t, chance{rand.New(rand.NewSource(int64(seed)))}, told)
		for i := range 4000 {
			w.act()
			if i%50 == 0 {
				w.holdDisks()
			}
		}
	}
	for _, kind := range l(api.VoteAsk, api.AppendAsk, api.AppendTell, api.SnapAsk, api.SnapTell, api.FetchAsk, api.FetchTell, api.BeatAsk, api.AlterAsk) {
		wantTold(t, told, 10, kind, api.OK)
	}
	wantTold(t, told, 10, api.AppendTell, api.ErrArg, api.ErrFull, api.ErrOrder)
	wantTold(t, told, 10, api.FetchTell, api.ErrArg, api.ErrFenced, api.ErrNewer, api.ErrLeader)
	wantTold(t, told, 10, api.BeatTell, api.OK, api.ErrLeader)
	wantTold(t, told, 10, api.AlterTell, api.OK, api.ErrLeader, api.ErrFull)
	wantTold(t, told, 10, api.AdminTell, api.OK, api.ErrArg, api.ErrMany, api.ErrFull, api.ErrNone, api.ErrTwice, api.ErrLeader, api.ErrState)
	wantTold(t, told, 10, api.ProduceTell, api.OK, api.ErrArg, api.ErrFull, api.ErrOrder, api.ErrFenced, api.ErrNewer, api.ErrLeader)
	wantTold(t, told, 5, api.ProduceTell, api.ErrDuplicate)
	wantTold(t, told, 10, api.ReadTell, api.OK, api.ErrArg, api.ErrRange, api.ErrLeader)
	wantTold(t, told, 10, api.InfoTell, api.OK, api.ErrNone)
	wantTold(t, told, 10, api.GroupTell, api.OK, api.ErrArg, api.ErrFull, api.ErrMember, api.ErrGen, api.ErrCoord)
	wantTold(t, told, 10, api.DeleteTell, api.OK, api.ErrArg, api.ErrFull, api.ErrRange, api.ErrLeader)
}
