package prio

import "paceline/api"

// pile is what container/heap works on: messages, the first of them at 0, and at which place that of each key stands.
// Without the places each key that is pushed or removed would have to be looked for.
type pile struct {
	msgs  []api.Msg
	place map[api.Key]int
}

func (p *pile) Len() int {
	return len(p.msgs)
}

func (p *pile) Less(i, j int) bool {
	return byKey(p.msgs[i], p.msgs[j]) < 0
}

func (p *pile) Swap(i, j int) {
	p.msgs[i], p.msgs[j] = p.msgs[j], p.msgs[i]
	p.place[p.msgs[i].Key] = i
	p.place[p.msgs[j].Key] = j
}

// Push puts x at the end, from where the heap moves it.
func (p *pile) Push(x any) {
	m := x.(api.Msg)
	p.place[m.Key] = len(p.msgs)
	p.msgs = append(p.msgs, m)
}

// Pop takes away the last one, to where the heap has moved what is to go.
func (p *pile) Pop() any {
	end := len(p.msgs) - 1
	last := p.msgs[end]
	p.msgs = p.msgs[:end]
	delete(p.place, last.Key)
	return last
}
