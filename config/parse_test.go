package config

import (
	"fingerpost/api"
	"math/rand"
	"strconv"
	"strings"
	"testing"
)

// P23.2: the chapter's examples.
func TestExample(t *testing.T) {
	r := usual()
	r.Spring.Width, r.Spring.Steps = 2, 3
	tells(t, "width 2\nsteps 3", r)
	wrong(t, "width 3", 1, "width", api.ErrConfig)
	wrong(t, "width 03", 1, "width", api.ErrForm)
}

// P23.2: a line tells the number of its name alone.
func TestLines(t *testing.T) {
	for _, x := range table() {
		for _, n := range edges(x) {
			if n < 0 {
				continue
			}
			text := x.name + " " + strconv.Itoa(n)
			for _, ends := range []string{"", "\n", "\n\n# end"} {
				if x.may(n) {
					tells(t, text+ends, with(x, n))
				} else {
					wrong(t, text+ends, 1, x.name, api.ErrConfig)
				}
			}
		}
	}
}

// P23.2: all names, in any order.
func TestAllLines(t *testing.T) {
	random := rand.New(rand.NewSource(23))
	for range 200 {
		want, lines := Rules{}, []string{}
		for _, x := range table() {
			n := x.greatest
			if x.name != "width" {
				n = x.least + random.Intn(x.greatest-x.least+1)
			}
			x.set(&want, n)
			lines = append(lines, x.name+" "+strconv.Itoa(n))
		}
		random.Shuffle(len(lines), func(a, b int) { lines[a], lines[b] = lines[b], lines[a] })
		tells(t, strings.Join(lines, "\n"), want)
	}
}

// P23.2: what tells nothing.
func TestNothingIsTold(t *testing.T) {
	for _, text := range []string{
		"", "\n", "\n\n\n", "#", "#\n#", "# width 3", "#width 3", "##", "#\x00\xff\r", "\n# life 0\n\n", "#\n\n", "# life 1\n# life 2", "#5", "# 5",
	} {
		tells(t, text, usual())
	}
	r := usual()
	r.Rib.Life = 7
	for _, text := range []string{"life 7", "\nlife 7", "\n\nlife 7\n\n", "# life 8\nlife 7\n#life 9", "life 7\n", "#\nlife 7\n#"} {
		tells(t, text, r)
	}
}

// P23.2: lines count from 1 on, those that tell nothing, too.
func TestLineOfMistake(t *testing.T) {
	for ahead, text := range []string{"", "\n", "# a\n", "\n\n\n", "life 1\n\n# life\n\n"} {
		line := []int{1, 2, 2, 4, 5}[ahead]
		wrong(t, text+"steps", line, "steps", api.ErrForm)
		wrong(t, text+"steps 3\nsteps 3", line+1, "steps", api.ErrTwice)
		wrong(t, text+"step 3\nsteps 3", line, "step", api.ErrNone)
		wrong(t, text+"steps 16\nrotate 3", line, "steps", api.ErrConfig)
	}
}

// Errors, ErrForm: no blank, or no number behind it.
func TestForm(t *testing.T) {
	for _, digits := range []string{
		"", " ", "  ", " 2", "2 ", "2 3", "02", "00", "0x2", "+2", "-2", "-0", "+0", "-", "+", "2.0", "2e0", "1_0", "2,", "2#", "2 # two",
		"2\r", "\r", "2\t", "\t2", "2\x00", "\xff", "\u0662", "\uff12", "two",
		"9223372036854775808", "18446744073709551616", "18446744073709551618", "36893488147419103234", strings.Repeat("9", 100), "-9223372036854775808",
	} {
		for _, name := range []string{"width", "rotate", "x", "", "\t", "Width", "width\t"} {
			wrong(t, name+" "+digits, 1, name, api.ErrForm)
		}
	}
	for _, name := range []string{"width", "width2", "width\t2", "x", "2", "\r", "\t", "width=2", "width\u00a02", "\xff"} {
		wrong(t, name, 1, name, api.ErrForm)
	}
	wrong(t, " # no comment", 1, "", api.ErrForm)
	wrong(t, " ", 1, "", api.ErrForm)
	wrong(t, "# a\n \n", 2, "", api.ErrForm)
}

// P23.2: a number is below 2^63, whether it may be or not.
func TestGreatNumbers(t *testing.T) {
	for _, x := range table() {
		wrong(t, x.name+" 9223372036854775807", 1, x.name, api.ErrConfig)
		wrong(t, x.name+" 9223372036854775808", 1, x.name, api.ErrForm)
	}
	wrong(t, "x 9223372036854775807", 1, "x", api.ErrNone)
}

// Errors, ErrNone: names are as they stand in the table, to the byte.
func TestNames(t *testing.T) {
	for _, name := range []string{"", "x", "widt", "widths", "Width", "WIDTH", "width\t", "\twidth", "\rwidth", "width#", "frames_tick", "framestick", "frames-", "blocks-ticks", "most\x00", "\xffmost", "Spring.Width", "1", "-"} {
		wrong(t, name+" 2", 1, name, api.ErrNone)
		wrong(t, "life 3\n"+name+" 2\n"+name+" 2", 2, name, api.ErrNone)
	}
}

// Errors, ErrTwice: each name once, with the same number, too.
func TestTwice(t *testing.T) {
	for at, x := range table() {
		text := x.name + " " + strconv.Itoa(x.usual)
		wrong(t, text+"\n"+text, 2, x.name, api.ErrTwice)
		other := table()[(at+1)%15]
		wrong(t, text+"\n\n"+other.name+" 1\n"+x.name+" 1", 4, x.name, api.ErrTwice)
		wrong(t, x.name+" 2147483648\n"+x.name+" 2147483648", 2, x.name, api.ErrTwice)
		tells(t, text+"\n# "+text+"\n#"+text, usual())
	}
}

// Errors: line by line, and in each line ErrForm ahead of ErrTwice; numbers that may not be at last, by the table's order.
func TestOrderOfErrors(t *testing.T) {
	wrong(t, "life 1\nlife x", 2, "life", api.ErrForm)
	wrong(t, "life 1\nlife", 2, "life", api.ErrForm)
	wrong(t, "life x\nlife 1\nlife 1", 1, "life", api.ErrForm)
	wrong(t, "x y", 1, "x", api.ErrForm)
	wrong(t, "x 1\nx 1", 1, "x", api.ErrNone)
	wrong(t, "x 1\ny", 1, "x", api.ErrNone)
	wrong(t, "life 1\nlife 1\nx 1", 2, "life", api.ErrTwice)
	wrong(t, "width 3\nx 1", 2, "x", api.ErrNone)
	wrong(t, "width 3\nx", 2, "x", api.ErrForm)
	wrong(t, "width 3\nlife 1\nwidth 3", 3, "width", api.ErrTwice)
	all := table()
	for first := range all {
		for second := range all[first+1:] {
			a := all[first].name + " " + strconv.Itoa(all[first].greatest+1)
			b := all[first+1+second].name + " 2147483647"
			wrong(t, a+"\n"+b, 1, all[first].name, api.ErrConfig)
			wrong(t, b+"\n#\n"+a, 3, all[first].name, api.ErrConfig)
		}
	}
}

// Errors, ErrLimit: of 4096 bytes, ahead of all else.
func TestLimit(t *testing.T) {
	r := usual()
	r.Rib.Life = 7
	for _, fill := range []string{"\n", "#"} {
		tells(t, "life 7\n"+strings.Repeat(fill, 4089), r)
		wrong(t, "life 7\n"+strings.Repeat(fill, 4090), 0, "", api.ErrLimit)
		wrong(t, "x\n"+strings.Repeat(fill, 4095), 0, "", api.ErrLimit)
	}
	wrong(t, strings.Repeat("x", 4096), 1, strings.Repeat("x", 4096), api.ErrForm)
	wrong(t, strings.Repeat("x", 4097), 0, "", api.ErrLimit)
	wrong(t, strings.Repeat("\u00e9", 2049), 0, "", api.ErrLimit)
	wrong(t, strings.Repeat("\n", 1<<20), 0, "", api.ErrLimit)
	wrong(t, "life "+strings.Repeat("1", 4091), 1, "life", api.ErrForm)
	wrong(t, strings.Repeat("\n", 4095)+"x", 4096, "x", api.ErrForm)
}
