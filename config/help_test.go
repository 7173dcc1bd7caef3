package config

import (
	"fingerpost/api"
	"fingerpost/peer"
	"fingerpost/rib"
	"fingerpost/settle"
	"fingerpost/spring"
	"fingerpost/toll"
	"testing"
)

// row is a line of the chapter's table, and how its number is set.
type row struct {
	name            string
	least, greatest int
	usual           int
	set             func(r *Rules, n int)
}

// table is the chapter's table.
func table() []row {
	return []row{
		{"width", 1, 8, 4, func(r *Rules, n int) { r.Spring.Width = n }},
		{"steps", 1, 15, 6, func(r *Rules, n int) { r.Spring.Steps = n }},
		{"height", 0, 6, 3, func(r *Rules, n int) { r.Spring.Height = n }},
		{"dead", 1, 1048576, 4, func(r *Rules, n int) { r.Peer.Dead = n }},
		{"window", 1, 64, 32, func(r *Rules, n int) { r.Peer.Window = n }},
		{"frames", 1, 1073741824, 200, func(r *Rules, n int) { r.Peer.Rates.Frames = n }},
		{"frames-tick", 0, 1073741824, 60, func(r *Rules, n int) { r.Peer.Rates.FramesTick = n }},
		{"blocks", 1, 1073741824, 20000, func(r *Rules, n int) { r.Peer.Rates.Blocks = n }},
		{"blocks-tick", 0, 1073741824, 6000, func(r *Rules, n int) { r.Peer.Rates.BlocksTick = n }},
		{"hold", 0, 1048576, 6, func(r *Rules, n int) { r.Rib.Hold = n }},
		{"life", 1, 1048576, 60, func(r *Rules, n int) { r.Rib.Life = n }},
		{"period", 1, 1048576, 10, func(r *Rules, n int) { r.Settle.Period = n }},
		{"settle", 0, 1048576, 2, func(r *Rules, n int) { r.Settle.Settle = n }},
		{"most", 64, 4096, 700, func(r *Rules, n int) { r.Most = n }},
		{"rotate", 1, 1048576, 20, func(r *Rules, n int) { r.Rotate = n }},
	}
}

// may says whether a row's number may be.
func (x row) may(n int) bool {
	if x.name == "width" {
		return n == 1 || n == 2 || n == 4 || n == 8
	}
	return x.least <= n && n <= x.greatest
}

// usual are the rules by default, as the chapter's table has them.
func usual() Rules {
	return Rules{
		Spring: spring.Rules{Width: 4, Steps: 6, Height: 3},
		Peer:   peer.Rules{Dead: 4, Window: 32, Rates: toll.Rates{Frames: 200, FramesTick: 60, Blocks: 20000, BlocksTick: 6000}},
		Rib:    rib.Rules{Hold: 6, Life: 60},
		Settle: settle.Rules{Period: 10, Settle: 2},
		Most:   700,
		Rotate: 20,
	}
}

// with are the rules by default, but for one number.
func with(x row, n int) Rules {
	r := usual()
	x.set(&r, n)
	return r
}

// tells holds a text to the rules that it tells.
func tells(t *testing.T, text string, want Rules) {
	t.Helper()
	if r, m := Parse(text); r != want || m != (Mistake{}) {
		t.Errorf("Parse(%q): %v, %v, not %v", text, r, m, want)
	}
}

// wrong holds a text to what is wrong with it.
func wrong(t *testing.T, text string, line int, name string, e api.Errno) {
	t.Helper()
	want := Mistake{Line: line, Name: name, Err: e}
	if r, m := Parse(text); r != (Rules{}) || m != want {
		t.Errorf("Parse(%q): %v, %v, not %v", text, r, m, want)
	}
}

// checks holds rules to the first name whose number may not be; none, if all may.
func checks(t *testing.T, r Rules, want string) {
	t.Helper()
	e := api.ErrConfig
	if want == "" {
		e = api.OK
	}
	if name, got := Check(r); name != want || got != e {
		t.Errorf("Check(%v): %q, %d, not %q, %d", r, name, got, want, e)
	}
}
