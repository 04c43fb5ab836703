package broker

import (
	"slices"

	"logboom/api"
	"logboom/meta"
	"logboom/wire"
)

// mostTaken is how many entries stay behind a snapshot, about.
const mostTaken = 200

// settle does what follows of what the node agreed on, of what is committed, of who leads.
func (b *Broker) settle(now int) []api.Msg {
	list := b.take(now)
	if b.coord != nil {
		list = append(list, b.coord.Run(now)...)
	}
	return append(list, b.goOn()...)
}

// take applies what was agreed on: the answers to those who wished for it.
func (b *Broker) take(now int) []api.Msg {
	entries, first := b.node.Take()
	if len(entries) == 0 {
		return nil
	}
	last := entries[len(entries)-1].Index
	if first {
		b.load(entries[0])
		entries = entries[1:]
	}
	var list []api.Msg
	for _, x := range entries {
		list = append(list, b.apply(x)...)
	}
	b.compact(last)
	b.reconcile(now)
	return list
}

// load takes a snapshot for the image. What came of wishes that lie in it nobody will tell any more.
func (b *Broker) load(x api.Entry) {
	c := &b.control
	c.wishes = slices.DeleteFunc(c.wishes, func(w wish) bool { return w.index <= x.Index })
	image, e := meta.Load(x.Data)
	if e != api.OK {
		return
	}
	b.image = *image
	b.taken = 0
}

// apply applies an entry, if it is a record, and answers the wishes that stood at its index.
func (b *Broker) apply(x api.Entry) []api.Msg {
	b.taken++
	told, err := 0, api.OK
	if r, e := wire.ReadMeta(x.Data); e == api.OK {
		told, err = b.image.Apply(r)
	}
	var list []api.Msg
	c := &b.control
	c.wishes = slices.DeleteFunc(c.wishes, func(w wish) bool {
		if w.index == x.Index {
			list = append(list, w.became(x.Term, told, err))
		}
		return w.index == x.Index
	})
	return list
}

// became is the answer to a wish when an entry stands at its index: it may be one of another controller.
func (w wish) became(term, told int, e api.Errno) api.Msg {
	a := w.answer
	if w.term != term {
		a.Err = api.ErrLeader
		return a
	}
	a.Offset, a.Err = told, e
	return a
}

// compact has a snapshot stand for the entries, when they are many. An error is passed over: it is tried again when they are many more.
func (b *Broker) compact(index int) {
	if b.taken < mostTaken {
		return
	}
	b.taken = 0
	b.node.Compact(index, b.image.Keep())
}
