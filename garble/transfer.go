package garble

import (
	"twain/api"
	"twain/fault"
	"twain/ring"
)

// wordBits is how many bits a word has: so many labels are chosen at a time.
const wordBits = 64

// Ask: what the receiver asks.
func Ask(ots []api.OT, x uint64) (uint64, error) {
	if err := just(wordBits, "ots", len(ots)); err != nil {
		return 0, err
	}
	for i, ot := range ots {
		if ot.Choice {
			x ^= 1 << i
		}
	}
	return x, nil
}

// Reply: what the sender answers.
func Reply(ots []api.OT, ask uint64, zeros []api.Label, delta api.Label) ([]api.Label, error) {
	if err := just(wordBits, "ots", len(ots)); err != nil {
		return nil, err
	}
	if err := just(wordBits, "zeros", len(zeros)); err != nil {
		return nil, err
	}
	reply := make([]api.Label, 0, 2*wordBits)
	for i, ot := range ots {
		q := ask >> i & 1
		reply = append(reply, ring.Xor(zeros[i], ot.R[q]), ring.Xor(Label(zeros[i], delta, true), ot.R[1-q]))
	}
	return reply, nil
}

// Pick: the labels that the receiver gets.
func Pick(ots []api.OT, x uint64, reply []api.Label) ([]api.Label, error) {
	if err := just(wordBits, "ots", len(ots)); err != nil {
		return nil, err
	}
	if err := just(2*wordBits, "reply", len(reply)); err != nil {
		return nil, err
	}
	labels := make([]api.Label, wordBits)
	for i, ot := range ots {
		v := int(x >> i & 1)
		labels[i] = ring.Xor(reply[2*i+v], ot.R[0])
	}
	return labels, nil
}

// just: are there so many, none fewer and none more?
func just(want int, name string, got int) error {
	if got != want {
		return fault.Wrap(api.ErrRange, name, got)
	}
	return nil
}
