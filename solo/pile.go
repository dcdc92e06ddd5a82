package solo

import (
	"cmp"
	"container/heap"
	"slices"

	"paceline/api"
	"paceline/vtime"
)

// pile is a heap of messages, the first of them at 0. It has no bound: a run's messages wait, however many there are.
type pile []api.Msg

func (p *pile) Len() int {
	return len(*p)
}

func (p *pile) Less(i, j int) bool {
	return inTurn((*p)[i], (*p)[j]) < 0
}

func (p *pile) Swap(i, j int) {
	(*p)[i], (*p)[j] = (*p)[j], (*p)[i]
}

// Push puts x at the end, from where the heap moves it.
func (p *pile) Push(x any) {
	*p = append(*p, x.(api.Msg))
}

// Pop takes away the last one, to where the heap has moved what is to go.
func (p *pile) Pop() any {
	end := len(*p) - 1
	last := (*p)[end]
	*p = (*p)[:end]
	return last
}

// put lets m wait.
func (p *pile) put(m api.Msg) {
	heap.Push(p, m)
}

// first tells the first message, which stays; false, if there is none.
func (p *pile) first() (api.Msg, bool) {
	if p.Len() == 0 {
		return api.Msg{}, false
	}
	return (*p)[0], true
}

// drop takes the first message away.
func (p *pile) drop() {
	heap.Pop(p)
}

// list tells all messages, in the order of their turns.
func (p *pile) list() []api.Msg {
	l := slices.Clone(*p)
	slices.SortFunc(l, inTurn)
	return l
}

// inTurn tells which of both is first: one send goes to several federates with one key, of these the least is first.
func inTurn(a, b api.Msg) int {
	return cmp.Or(vtime.Cmp(a.Key, b.Key), cmp.Compare(a.To, b.To))
}
