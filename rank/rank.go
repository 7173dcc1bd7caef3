// Package rank is layer 1: see shared/doc/01-rank.md.
package rank

import (
	"cmp"
	"fingerpost/api"
	"strconv"
	"strings"
)

// Right says whether a key may be.
func Right(k api.Key) bool {
	return k.Epoch <= api.MaxEpoch && k.Seq < 1<<api.MaxHeight && k.Metric >= 0 && k.Metric <= api.MaxMetric
}

// Compare is 1, if a is the better one, -1, if b is, 0, if they are one.
func Compare(a, b api.Key) int {
	if c := cmp.Compare(a.Epoch, b.Epoch); c != 0 {
		return c
	}
	if c := cmp.Compare(a.Seq, b.Seq); c != 0 {
		return c
	}
	// The other way round: of one sequence the nearer route is the better one.
	return cmp.Compare(b.Metric, a.Metric)
}

// Newer says whether a is of a later sequence than b, however far.
func Newer(a, b api.Key) bool {
	return a.Epoch > b.Epoch || a.Epoch == b.Epoch && a.Seq > b.Seq
}

// Hop is a key one hop farther.
func Hop(k api.Key) (api.Key, api.Errno) {
	if !Right(k) {
		return api.Key{}, api.ErrArg
	}
	if k.Metric == api.MaxMetric {
		return api.Key{}, api.ErrLimit
	}
	k.Metric++
	return k, api.OK
}

// Next is the first key of the next sequence, of so many an epoch.
func Next(k api.Key, height int) (api.Key, api.Errno) {
	if !Right(k) || height < 0 || height > api.MaxHeight {
		return api.Key{}, api.ErrArg
	}
	if k.Seq+1 < 1<<height {
		return api.Key{Epoch: k.Epoch, Seq: k.Seq + 1}, api.OK
	}
	if k.Epoch == api.MaxEpoch {
		return api.Key{}, api.ErrSpent
	}
	return api.Key{Epoch: k.Epoch + 1}, api.OK
}

// Best is the place of the best of some keys; -1: there is none.
func Best(l []api.Key) int {
	best := -1
	for i, k := range l {
		// Only a better one takes the place, so that of equals the first one keeps it.
		if best < 0 || Compare(k, l[best]) > 0 {
			best = i
		}
	}
	return best
}

// Text is a key as a text.
func Text(k api.Key) string {
	epoch := strconv.FormatUint(uint64(k.Epoch), 10)
	seq := strconv.FormatUint(uint64(k.Seq), 10)
	return epoch + "." + seq + "/" + strconv.Itoa(k.Metric)
}

// Parse is the right key that a text is.
func Parse(t string) (api.Key, api.Errno) {
	epoch, rest, _ := strings.Cut(t, ".")
	seq, metric, _ := strings.Cut(rest, "/")
	k := api.Key{Epoch: number(epoch), Seq: number(seq), Metric: int(number(metric))}
	// A key has one text alone: to hold it against t refuses signs, leading zeros and all that is missing or too much.
	if !Right(k) || Text(k) != t {
		return api.Key{}, api.ErrForm
	}
	return k, api.OK
}

// number is the number that a text of digits is; Parse finds out by itself whether the text was one.
func number(t string) uint32 {
	n, _ := strconv.ParseUint(t, 10, 32)
	return uint32(n)
}
