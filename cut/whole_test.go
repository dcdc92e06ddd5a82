package cut_test

import (
	"slices"
	"testing"

	"paceline/api"
	"paceline/cut"
)

// thing is what is on its way.
type thing struct{ t, colour int }

// party is participants that keep to what P16.6 asks of them, and what they have on its way.
type party struct {
	t    *testing.T
	c    *cut.Cut
	draw func(below int) int
	// Of each the least of what it reported last and what it got since.
	floors []int
	way    []thing
	// How many rounds ended while something was on its way, and how many raised the value.
	busy, rose int
}

func partyOf(t *testing.T, n, seed int) *party {
	return &party{t: t, c: made(t, n), draw: drawn(seed), floors: make([]int, n)}
}

// send: i sends something that is not below its floor, and so not below the value.
func (p *party) send(i int) {
	at := p.floors[i] + p.draw(6)
	if at < p.c.Value() {
		p.t.Errorf("%d sends at %d, below %d", i, at, p.c.Value())
	}
	colour, e := p.c.Sent(i, at)
	if e != api.OK {
		p.t.Errorf("Sent(%d, %d): %d", i, at, e)
	}
	p.way = append(p.way, thing{at, colour})
}

// get: any of what is on its way comes to i.
func (p *party) get(i int) {
	if len(p.way) == 0 {
		return
	}
	at := p.draw(len(p.way))
	x := p.way[at]
	p.way = slices.Delete(p.way, at, at+1)
	got(p.t, p.c, i, x.colour, api.OK)
	p.floors[i] = min(p.floors[i], x.t)
}

// report: i reports a time that is not below its floor, as it goes ahead by itself; the floor is there, if it may.
func (p *party) report(i int) {
	local, value, rounds := p.floors[i]+p.draw(4), p.c.Value(), p.c.Rounds()
	if p.c.Report(i, local) != api.OK {
		return
	}
	p.floors[i] = local
	if p.c.Rounds() == rounds {
		return
	}
	if len(p.way) > 0 {
		p.busy++
	}
	if p.c.Value() > value {
		p.rose++
	}
	for _, x := range p.way {
		if x.t < p.c.Value() {
			p.t.Errorf("something of %d is on its way, below %d", x.t, p.c.Value())
		}
	}
}

// step does any one thing.
func (p *party) step() {
	i := p.draw(len(p.floors))
	switch p.draw(7) {
	case 0:
		p.c.Begin()
	case 1:
		p.c.Turn(i)
	case 2, 3:
		p.report(i)
	case 4:
		p.send(i)
	default:
		p.get(i)
	}
}

// P16.6: when a round is over, nothing below the value is on its way, nor is anything sent any more; and the value rises.
func TestNothingBelowTheValue(t *testing.T) {
	busy, rose := 0, 0
	for n := 1; n <= api.MaxFeds; n++ {
		for run := range 40 {
			p := partyOf(t, n, 1000*n+run)
			for step := range 3000 {
				p.step()
				if t.Failed() {
					t.Fatalf("of %d, run %d, at step %d", n, run, step)
				}
			}
			busy, rose = busy+p.busy, rose+p.rose
		}
	}
	if busy < 1000 || rose < 1000 {
		t.Errorf("only %d rounds ended while something was on its way, only %d raised the value", busy, rose)
	}
}

// P16.6: something of the new colour that comes late, to who has reported, does not send its answer below the value.
func TestWhatComesBehindTheReport(t *testing.T) {
	c := made(t, 2)
	round(t, c, 4, 4)
	begin(t, c, api.OK)
	turn(t, c, 0, api.OK)
	// 0 has turned, and sends at 6; 1 has reported 20 when that comes, and answers at 6.
	sent(t, c, 0, 6, 0, api.OK)
	turn(t, c, 1, api.OK)
	report(t, c, 1, 20, api.OK)
	got(t, c, 1, 0, api.OK)
	report(t, c, 0, 30, api.OK)
	is(t, c, 6, 2, false)
	sent(t, c, 1, 6, 0, api.OK)
}

// P16.6: something of the old colour holds the round up till who got it can report it.
func TestWhatWasSentBeforeTheTurn(t *testing.T) {
	c := made(t, 2)
	round(t, c, 4, 4)
	sent(t, c, 0, 5, 1, api.OK)
	turned(t, c, 2)
	report(t, c, 0, 30, api.ErrIdle)
	report(t, c, 1, 20, api.ErrIdle)
	got(t, c, 1, 1, api.OK)
	report(t, c, 0, 30, api.OK)
	report(t, c, 1, 5, api.OK)
	is(t, c, 5, 2, false)
}
