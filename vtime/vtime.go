// Package vtime tells logical times and the keys of messages; its promises are those of the document's chapter 1.
package vtime

import (
	"cmp"

	"paceline/api"
)

// How many bytes of a code each part of a key takes.
const (
	bytesOfT    = 8
	bytesOfFrom = 2
	bytesOfSeq  = 6
)

const (
	endOfT    = bytesOfT
	endOfFrom = endOfT + bytesOfFrom
	endOfSeq  = endOfFrom + bytesOfSeq
)

// The greatest numbers that fit into their bytes.
const (
	maxFrom = 1<<(8*bytesOfFrom) - 1
	maxSeq  = 1<<(8*bytesOfSeq) - 1
)

// part is a number, and how many bytes of a code it takes.
type part struct{ number, size int }

// Valid tells whether t is a time: from 0 to MaxTime, or Inf.
func Valid(t int) bool {
	return within(t, api.MaxTime) || t == api.Inf
}

// Add tells which time is d behind t; Inf, if it is later than MaxTime.
func Add(t, d int) int {
	// Two counted numbers come to 2 Inf at most: the sum can't wrap round.
	return counted(counted(t) + counted(d))
}

// Cmp tells whether a stands ahead of b (-1), is it (0), or stands behind it (1).
func Cmp(a, b api.Key) int {
	return cmp.Or(cmp.Compare(a.T, b.T), cmp.Compare(a.From, b.From), cmp.Compare(a.Seq, b.Seq))
}

// Least tells the least of l, each counted as Add counts it; Inf, if there is none.
func Least(l []int) int {
	least := api.Inf
	for _, t := range l {
		least = min(least, counted(t))
	}
	return least
}

// Code writes k as 16 bytes that are ordered, as texts, as keys are.
func Code(k api.Key) (string, api.Errno) {
	if !codable(k) {
		return "", api.ErrArg
	}
	return written(part{k.T, bytesOfT}, part{k.From, bytesOfFrom}, part{k.Seq, bytesOfSeq}), api.OK
}

// Decode tells the key whose Code is s.
func Decode(s string) (api.Key, api.Errno) {
	if len(s) != endOfSeq {
		return api.Key{}, api.ErrForm
	}
	k := api.Key{T: read(s[:endOfT]), From: read(s[endOfT:endOfFrom]), Seq: read(s[endOfFrom:])}
	if !codable(k) {
		return api.Key{}, api.ErrForm
	}
	return k, api.OK
}

// counted is what t counts as where a time is asked for.
func counted(t int) int {
	if t > api.MaxTime {
		return api.Inf
	}
	return max(t, 0)
}

func codable(k api.Key) bool {
	return Valid(k.T) && within(k.From, maxFrom) && within(k.Seq, maxSeq)
}

func within(n, most int) bool {
	return 0 <= n && n <= most
}

// written puts the parts behind one another, of each the highest byte first: so the order of texts is that of the numbers.
func written(parts ...part) string {
	var code []byte
	for _, p := range parts {
		for i := p.size - 1; i >= 0; i-- {
			code = append(code, byte(p.number>>(8*i)))
		}
	}
	return string(code)
}

// read is the number whose bytes s is; of eight bytes with the highest bit set it is below 0, and so no time.
func read(s string) int {
	n := 0
	for i := range len(s) {
		n = n<<8 | int(s[i])
	}
	return n
}
