package query

import (
	"fingerpost/api"
	"fingerpost/count"
	"fingerpost/fib"
	"fingerpost/rank"
	"strconv"
	"strings"
)

// none is what is told where there is nothing.
const none = "none"

// hopLines are a table's hops, a line each.
func hopLines(l []fib.Hop) []string {
	var lines []string
	for _, h := range l {
		lines = append(lines, number(h.Dest)+" by "+number(h.Next)+" metric "+number(h.Metric))
	}
	return lines
}

// nextText is the next node of the hop to a destination.
func nextText(l []fib.Hop, dest int) string {
	next := fib.Lookup(l, dest)
	if next < 0 {
		return none
	}
	return number(next)
}

// keyText is a key that there may be.
func keyText(k api.Key, ok bool) string {
	if !ok {
		return none
	}
	return rank.Text(k)
}

// numbersText are numbers with blanks between.
func numbersText(l []int) string {
	var all []string
	for _, n := range l {
		all = append(all, number(n))
	}
	return orNone(all)
}

// countersText are the counters that aren't 0, with their names.
func countersText(l []int64) string {
	var all []string
	for which := range count.Many {
		if n := counter(l, which); n != 0 {
			all = append(all, count.Name(which)+"="+number(n))
		}
	}
	return orNone(all)
}

// askCounter answers what a counter of a name is.
func askCounter(s Source, name string) ([]string, api.Errno) {
	which := count.Which(name)
	if which < 0 {
		return nil, api.ErrWord
	}
	return line(number(counter(s.Counters(), which)))
}

// counter is one of a source's counters. A source that has too few of them has no others.
func counter(l []int64, which int) int64 {
	if which >= len(l) {
		return 0
	}
	return l[which]
}

// orNone are texts with blanks between.
func orNone(l []string) string {
	if len(l) == 0 {
		return none
	}
	return strings.Join(l, " ")
}

// number is a number of any of the kinds that are told.
func number[N int | int64 | uint64 | api.Errno](n N) string {
	if n < 0 {
		return strconv.FormatInt(int64(n), 10)
	}
	return strconv.FormatUint(uint64(n), 10)
}
