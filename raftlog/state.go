package raftlog

import (
	"slices"

	"logboom/api"
)

// state is what a log keeps. The first entry of the list stands at the index behind the snapshot's, each other one behind the one ahead.
type state struct {
	term, vote int
	snap       api.Entry
	list       []api.Entry
}

func (s *state) Term() int { return s.term }

func (s *state) Vote() int { return s.vote }

func (s *state) First() int { return s.snap.Index + 1 }

func (s *state) Last() (int, int) {
	end := s.ahead(s.First() + len(s.list))
	return end.Index, end.Term
}

func (s *state) At(index int) (api.Entry, bool) {
	if index < s.First() || index >= s.First()+len(s.list) {
		return api.Entry{}, false
	}
	return s.list[index-s.First()], true
}

func (s *state) From(index, most int) []api.Entry {
	if _, ok := s.At(index); !ok || most < 1 {
		return nil
	}
	list := s.list[index-s.First():]
	return slices.Clone(list[:min(most, len(list))])
}

func (s *state) Snapshot() (int, int, string) { return s.snap.Index, s.snap.Term, s.snap.Data }

// ahead is the entry ahead of an index, or the snapshot, if none is.
func (s *state) ahead(index int) api.Entry {
	if x, ok := s.At(index - 1); ok {
		return x
	}
	return s.snap
}

// unknown is what is left of entries when those are passed over that lie in the snapshot, and then those that are there already.
func (s *state) unknown(list []api.Entry) []api.Entry {
	for i, x := range list {
		if x.Index <= s.snap.Index {
			continue
		}
		if there, ok := s.At(x.Index); !ok || there.Term != x.Term {
			return list[i:]
		}
	}
	return nil
}

// put has entries stand where their indexes say; what stood there, and behind, is gone.
func (s *state) put(list []api.Entry) {
	s.list = slices.Replace(s.list, list[0].Index-s.First(), len(s.list), list...)
}

// begin has a snapshot stand ahead of the entries: those behind it stay only if it says the same of its index as they do.
func (s *state) begin(snap api.Entry) {
	x, ok := s.At(snap.Index)
	if ok && x.Term == snap.Term {
		s.list = behind(s.list, snap.Index)
	} else {
		s.list = nil
	}
	s.snap = snap
}

// behind is a new list of the entries behind an index, so that those ahead are not held on to.
func behind(list []api.Entry, index int) []api.Entry {
	for len(list) > 0 && list[0].Index <= index {
		list = list[1:]
	}
	return slices.Clone(list)
}
