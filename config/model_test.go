package config

import (
	"fingerpost/api"
	"math/big"
	"math/rand"
	"regexp"
	"strconv"
	"strings"
	"testing"
)

// digits are all numbers' forms.
var digits = regexp.MustCompile(`^(0|[1-9][0-9]*)$`)

// model is Parse as the chapter's words tell it.
func model(text string) (Rules, Mistake) {
	if len(text) > 4096 {
		return Rules{}, Mistake{Err: 8}
	}
	lines, numbers := map[string]int{}, map[string]int{}
	line := 0
	for rest, more := text, true; more; {
		var one string
		one, rest, more = strings.Cut(rest, "\n")
		line++
		if one == "" || one[0] == '#' {
			continue
		}
		blank := strings.IndexByte(one, 32)
		if blank < 0 {
			return Rules{}, Mistake{line, one, 10}
		}
		name, number := one[:blank], one[blank+1:]
		n, ok := new(big.Int).SetString(number, 10)
		if !digits.MatchString(number) || !ok || n.BitLen() > 63 {
			return Rules{}, Mistake{line, name, 10}
		}
		if _, ok := lines[name]; ok {
			return Rules{}, Mistake{line, name, 7}
		}
		known := false
		for _, x := range table() {
			known = known || x.name == name
		}
		if !known {
			return Rules{}, Mistake{line, name, 6}
		}
		lines[name], numbers[name] = line, int(n.Int64())
	}
	r := usual()
	for _, x := range table() {
		if n, ok := numbers[x.name]; ok {
			if !x.may(n) {
				return Rules{}, Mistake{lines[x.name], x.name, 30}
			}
			x.set(&r, n)
		}
	}
	return r, Mistake{}
}

// someNumber is one of a row that mostly may be, and some that aren't any.
func someNumber(random *rand.Rand, x row) string {
	switch random.Intn(40) {
	case 0:
		return []string{"", "x", "01", "-1", "1 ", "99999999999999999999"}[random.Intn(6)]
	case 1:
		return strconv.Itoa(random.Intn(1 << 32))
	case 2:
		return strconv.Itoa(x.greatest)
	}
	return strconv.Itoa(x.least + random.Intn(min(10, x.greatest-x.least+1)))
}

// someText is one of lines that mostly tell rules, as few of them do as one likes.
func someText(random *rand.Rand) string {
	all := table()
	random.Shuffle(len(all), func(a, b int) { all[a], all[b] = all[b], all[a] })
	var lines []string
	for _, x := range all[:random.Intn(len(all)+1)] {
		switch random.Intn(30) {
		case 0:
			lines = append(lines, "")
		case 1:
			lines = append(lines, "# "+x.name+" 1")
		case 2:
			x.name = []string{"", "x", "most", "life", "Life"}[random.Intn(5)]
		case 3:
			x.name += []string{"\n", " ", "#", "\r"}[random.Intn(4)]
		}
		lines = append(lines, x.name+" "+someNumber(random, x))
	}
	return strings.Join(lines, "\n")
}

// P23.2: against the model.
func TestAgainstModel(t *testing.T) {
	random := rand.New(rand.NewSource(232))
	met := map[api.Errno]int{}
	for range 40000 {
		text := someText(random)
		r, m := Parse(text)
		if want, mistake := model(text); r != want || m != mistake {
			t.Fatalf("Parse(%q): %v, %v, not %v, %v", text, r, m, want, mistake)
		}
		met[m.Err]++
	}
	for _, e := range []api.Errno{api.OK, api.ErrForm, api.ErrTwice, api.ErrNone, api.ErrConfig} {
		if met[e] < 500 {
			t.Errorf("%d was met %d times", e, met[e])
		}
	}
}

// P23.2, R1: against the model, of bytes without much meaning.
func TestAnyBytes(t *testing.T) {
	random := rand.New(rand.NewSource(1))
	parts := []string{"\n", " ", "#", "width", "life", "-tick", "frames", "0", "1", "4", "9", "\r", "\x00", "\xff", "\u00e9", "-", "+"}
	for range 40000 {
		var text string
		for range random.Intn(12) {
			text += parts[random.Intn(len(parts))]
		}
		r, m := Parse(text)
		if want, mistake := model(text); r != want || m != mistake {
			t.Fatalf("Parse(%q): %v, %v, not %v, %v", text, r, m, want, mistake)
		}
	}
}
