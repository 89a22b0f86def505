package pace

import (
	"slices"
	"testing"
)

// diary has what was done, in order.
type diary struct{ l []string }

// note makes a function that writes its name down.
func (d *diary) note(name string) func() {
	return func() { d.l = append(d.l, name) }
}

func (d *diary) is(t *testing.T, want ...string) {
	t.Helper()
	if !slices.Equal(d.l, want) {
		t.Fatalf("done: %v, want %v", d.l, want)
	}
}

// ticks is a machine of so many accesses, that counts its Steps, those behind its end too.
type ticks struct{ left, steps int }

func (m *ticks) Step() {
	m.steps++
	m.left = max(m.left-1, 0)
}

func (m *ticks) Done() bool { return m.left == 0 }

func doneIs(t *testing.T, m Machine, want bool) {
	t.Helper()
	if m.Done() != want {
		t.Fatalf("Done: %v, want %v", m.Done(), want)
	}
}

// steps are how many a machine takes to be done, each of which has to find it not done yet.
func steps(t *testing.T, m Machine) int {
	t.Helper()
	n := 0
	for ; !m.Done(); n++ {
		if n > 100000 {
			t.Fatal("it is never done")
		}
		m.Step()
	}
	return n
}

func TestGearP4_1(t *testing.T) {
	var g Gear
	var d diary
	doneIs(t, &g, true)
	g.Step()
	g.End()
	doneIs(t, &g, true)
	g.To(d.note("a"))
	doneIs(t, &g, false)
	d.is(t)
	g.Step()
	d.is(t, "a")
	doneIs(t, &g, false)
	g.Step()
	d.is(t, "a", "a")
	g.To(d.note("b"))
	g.To(d.note("c"))
	g.Step()
	d.is(t, "a", "a", "c")
	g.End()
	doneIs(t, &g, true)
	g.Step()
	d.is(t, "a", "a", "c")
	g.To(d.note("d"))
	doneIs(t, &g, false)
	g.Step()
	d.is(t, "a", "a", "c", "d")
	g.To(nil)
	doneIs(t, &g, true)
	g.Step()
	d.is(t, "a", "a", "c", "d")
}

// What a step tells comes next behind it, not within it.
func TestStepTellsP4_1(t *testing.T) {
	var g Gear
	var d diary
	last := func() {
		d.note("last")()
		g.End()
	}
	g.To(func() {
		d.note("first")()
		g.To(last)
		d.note("told")()
	})
	g.Step()
	d.is(t, "first", "told")
	doneIs(t, &g, false)
	g.Step()
	d.is(t, "first", "told", "last")
	doneIs(t, &g, true)
}

// Two gears have nothing in common.
func TestGearsApartP4_1(t *testing.T) {
	var g, h Gear
	var d diary
	g.To(d.note("g"))
	doneIs(t, &h, true)
	h.To(d.note("h"))
	g.End()
	h.Step()
	g.Step()
	d.is(t, "h")
}

func TestRunP4_1(t *testing.T) {
	for n := 1; n <= 5; n++ {
		var g Gear
		var d diary
		m := &ticks{left: n}
		g.To(d.note("elder"))
		g.Run(m, func() {
			d.note("then")()
			// Nothing comes next already, when then is called.
			doneIs(t, &g, true)
		})
		for i := range n {
			doneIs(t, &g, false)
			d.is(t)
			if m.steps != i {
				t.Fatalf("%d Steps of %d, want %d", m.steps, n, i)
			}
			g.Step()
		}
		d.is(t, "then")
		doneIs(t, &g, true)
		g.Step()
		d.is(t, "then")
		if m.steps != n {
			t.Errorf("%d Steps of %d", m.steps, n)
		}
	}
}

// One that is done takes no Step: then is called at once, and nobody told the gear anything else.
func TestRunDoneP4_1(t *testing.T) {
	var g Gear
	var d diary
	m := &ticks{}
	g.Run(m, d.note("then"))
	d.is(t, "then")
	doneIs(t, &g, true)
	g.To(d.note("elder"))
	g.Run(m, d.note("then"))
	d.is(t, "then", "then")
	doneIs(t, &g, false)
	g.Step()
	d.is(t, "then", "then", "elder")
	g.Run(m, func() { g.To(d.note("told")) })
	g.Step()
	d.is(t, "then", "then", "elder", "told")
	if m.steps != 0 {
		t.Errorf("%d Steps of one that is done", m.steps)
	}
}

// What then tells comes next: a function, another machine, or a row of them.
func TestThenTellsP4_1(t *testing.T) {
	var g Gear
	var d diary
	a, b, c := &ticks{left: 2}, &ticks{}, &ticks{left: 3}
	g.Run(a, func() {
		d.note("a")()
		g.Run(b, func() {
			d.note("b")()
			g.Run(c, func() {
				d.note("c")()
				g.To(d.note("end"))
			})
		})
	})
	g.Step()
	d.is(t)
	g.Step()
	d.is(t, "a", "b")
	if c.steps != 0 {
		t.Fatalf("%d Steps of c already", c.steps)
	}
	g.Step()
	g.Step()
	d.is(t, "a", "b")
	g.Step()
	d.is(t, "a", "b", "c")
	doneIs(t, &g, false)
	g.Step()
	g.Step()
	d.is(t, "a", "b", "c", "end", "end")
	if a.steps != 2 || b.steps != 0 || c.steps != 3 {
		t.Errorf("%d, %d, %d Steps", a.steps, b.steps, c.steps)
	}
}

// To, End and Run take the place of what was run so far.
func TestRunReplacedP4_1(t *testing.T) {
	var d diary
	for name, replace := range map[string]func(g *Gear){
		"To":  func(g *Gear) { g.To(d.note("To")) },
		"End": func(g *Gear) { g.End() },
		"Run": func(g *Gear) { g.Run(&ticks{left: 1}, d.note("Run")) },
	} {
		var g Gear
		d = diary{}
		m := &ticks{left: 2}
		g.Run(m, d.note("then"))
		g.Step()
		replace(&g)
		g.Step()
		if m.steps != 1 || slices.Contains(d.l, "then") || name != "End" && !slices.Equal(d.l, []string{name}) {
			t.Errorf("%s: %d Steps, %v", name, m.steps, d.l)
		}
	}
}

// Others may step the machine between: it is looked at behind each Step.
func TestRunOthersP4_1(t *testing.T) {
	var g Gear
	var d diary
	m := &ticks{left: 3}
	g.Run(m, d.note("then"))
	m.Step()
	g.Step()
	d.is(t)
	g.Step()
	d.is(t, "then")
	doneIs(t, &g, true)
	m = &ticks{left: 2}
	g.Run(m, d.note("late"))
	m.Step()
	m.Step()
	d.is(t, "then")
	g.Step()
	d.is(t, "then", "late")
	doneIs(t, &g, true)
	g.Step()
	d.is(t, "then", "late")
}

// A gear is a machine too, however many lie in one another.
func TestNestedP4_1(t *testing.T) {
	var d diary
	m := &ticks{left: 3}
	var top Machine = m
	for range 1 << 16 {
		g := &Gear{}
		g.Run(top, nil)
		top = g
	}
	var g Gear
	g.Run(top, d.note("then"))
	if n := steps(t, &g); n != 3 || m.steps != 3 {
		t.Errorf("%d Steps, %d of them the innermost one's", n, m.steps)
	}
	d.is(t, "then")
}

// isNothing of a machine: it is done, and so it stays.
func isNothing(t *testing.T, m Machine) {
	t.Helper()
	doneIs(t, m, true)
	m.Step()
	doneIs(t, m, true)
}

func TestNilGearP4_2(t *testing.T) {
	var g *Gear
	var d diary
	isNothing(t, g)
	g.To(d.note("To"))
	isNothing(t, g)
	g.End()
	g.Run(&ticks{left: 1}, d.note("then"))
	isNothing(t, g)
	g.Run(nil, nil)
	d.is(t)
}

// A nil machine is done: it is run without a Step.
func TestRunNilP4_2(t *testing.T) {
	var d diary
	for i, m := range []Machine{nil, (*Gear)(nil), (*Reads)(nil), (*Frees)(nil), (*Lays)(nil), (*ticks)(nil)} {
		var g Gear
		g.Run(m, d.note("then"))
		if len(d.l) != i+1 || !g.Done() {
			t.Errorf("machine %d: then was called %d times", i, len(d.l))
		}
		g.Run(m, nil)
		isNothing(t, &g)
	}
	var g Gear
	m := &ticks{left: 1}
	g.Run(m, nil)
	doneIs(t, &g, false)
	g.Step()
	isNothing(t, &g)
	if m.steps != 1 {
		t.Errorf("%d Steps", m.steps)
	}
}

// Gears that lead back to one another never get done, but each Step of them ends.
func TestRing(t *testing.T) {
	var d diary
	var g, a, b, c Gear
	g.To(d.note("g"))
	g.Run(&g, d.note("then"))
	a.To(d.note("a"))
	a.Run(&c, d.note("c is done"))
	c.To(d.note("c"))
	c.Run(&b, d.note("b is done"))
	b.To(d.note("b"))
	b.Run(&c, d.note("c is done"))
	d.is(t, "c is done", "b is done")
	d = diary{}
	for _, x := range []*Gear{&a, &b, &c} {
		x.To(d.note("x"))
	}
	a.Run(&b, d.note("then"))
	b.Run(&c, d.note("then"))
	c.Run(&a, d.note("then"))
	for range 3 {
		for _, x := range []*Gear{&g, &a, &b, &c} {
			x.Step()
			doneIs(t, x, false)
		}
	}
	d.is(t)
	// A ring that is broken goes on.
	m := &ticks{left: 2}
	c.Run(m, d.note("m"))
	if n := steps(t, &a); n != 2 || m.steps != 2 {
		t.Errorf("%d Steps, %d of m", n, m.steps)
	}
	d.is(t, "m", "then", "then")
}

// sick is a machine of whose calls one panics.
type sick struct {
	ticks
	step, done bool
}

func (m *sick) Step() {
	m.ticks.Step()
	if m.step {
		panic("Step")
	}
}

func (m *sick) Done() bool {
	if m.done {
		panic("Done")
	}
	return m.ticks.Done()
}

// No call panics, whatever it was given: what panics has done what it did till then.
func TestPanics(t *testing.T) {
	var g Gear
	var d diary
	bad := func() {
		d.note("bad")()
		panic("bad")
	}
	g.To(bad)
	g.Step()
	g.Step()
	d.is(t, "bad", "bad")
	doneIs(t, &g, false)
	g.To(func() {
		g.End()
		panic("behind End")
	})
	g.Step()
	doneIs(t, &g, true)
	d = diary{}
	g.Run(&ticks{}, bad)
	d.is(t, "bad")
	doneIs(t, &g, true)
	g.Run(&ticks{left: 1}, bad)
	g.Step()
	d.is(t, "bad", "bad")
	doneIs(t, &g, true)
	g.Run(&sick{ticks: ticks{left: 3}, step: true}, d.note("step"))
	if n := steps(t, &g); n != 3 {
		t.Errorf("%d Steps", n)
	}
	d.is(t, "bad", "bad", "step")
	m := &sick{ticks: ticks{left: 3}, done: true}
	g.Run(m, d.note("done"))
	d.is(t, "bad", "bad", "step", "done")
	if m.steps != 0 {
		t.Errorf("%d Steps of one that can't tell whether it is done", m.steps)
	}
	m = &sick{ticks: ticks{left: 3}}
	g.Run(m, d.note("late"))
	g.Step()
	m.done = true
	g.Step()
	d.is(t, "bad", "bad", "step", "done", "late")
	isNothing(t, &g)
	if m.steps != 2 {
		t.Errorf("%d Steps of one that can't tell any more whether it is done", m.steps)
	}
}
