package route_test

import (
	"math"
	"slices"
	"strings"
	"testing"

	"qloom/api"
	"qloom/route"
)

// unlike are times that tell each kind from the others.
var unlike = api.Times{One: 1, Two: 10, Turn: 100, Look: 1000}

// How long each kind lasts: one behind the other on one qubit.
func TestHowLongEachKindLasts(t *testing.T) {
	for _, tried := range []struct {
		line  string
		lasts int
	}{
		{"x 0", 1}, {"h 0", 1}, {"x 0 on 1", 10}, {"x 1 on 0", 10}, {"p 3 0", 100}, {"p 0 0", 100}, {"phase 5", 100}, {"phase 0", 100},
		{"measure 0 to 0", 1000}, {"reset 0", 1000}, {"x 0 if 0", 1}, {"x 0 on 1 if !0", 10}, {"phase 1 if 0", 100}, {"reset 0 if 0", 1000},
	} {
		begins, end := scheduled(t, circuit(t, "qubits 2 bits 1", tried.line), unlike)
		equal(t, tried.line, begins, []int{0})
		equal(t, tried.line, end, tried.lasts)
		if !strings.HasPrefix(tried.line, "phase") {
			begins, end = scheduled(t, circuit(t, "qubits 2 bits 1", tried.line, "h 0"), unlike)
			equal(t, tried.line, begins, []int{0, tried.lasts})
			equal(t, tried.line, end, tried.lasts+1)
		}
	}
}

// Pairs of operations: does the second wait for the first?
func TestWhatTouchesTheSame(t *testing.T) {
	for _, tried := range []struct {
		first, second string
		waits         bool
	}{
		{"h 0", "h 0", true}, {"h 0", "h 1", false}, {"h 0", "x 2 on 0", true}, {"h 0", "x 0 on 2", true}, {"h 0", "x 1 on 2", false},
		{"x 1 on 0", "x 2 on 0", true}, {"x 1 on 0", "x 0 on 1", true}, {"x 1 on 0", "x 1 on 2", true}, {"x 1 on 0", "x 2 on 3", false}, {"x 1 on 0", "p 1 0", true},
		{"phase 1", "phase 2", false}, {"h 0", "phase 2", false}, {"phase 2", "h 0", false}, {"phase 1 if 0", "phase 2 if 0", true}, {"phase 1 if 0", "phase 2 if !0", true}, {"phase 1 if 0", "phase 2 if 1", false},
		{"measure 0 to 0", "measure 1 to 1", false}, {"measure 0 to 0", "measure 1 to 0", true}, {"measure 0 to 0", "measure 0 to 1", true}, {"measure 0 to 1", "h 1", false},
		{"measure 0 to 0", "x 1 if 0", true}, {"measure 0 to 0", "x 1 if !0", true}, {"measure 0 to 0", "x 1 if 1", false}, {"measure 0 to 0", "x 1 if !1 0", true}, {"measure 0 to 1", "phase 3 if 1 1", true},
		{"x 1 if 0", "measure 2 to 0", true}, {"x 1 if !0", "x 2 if 0", true}, {"x 1 if !0", "x 2 if 1", false}, {"x 1 if 0 1", "x 2 if 2 1", true},
		{"reset 0", "reset 0", true}, {"reset 0", "reset 1", false}, {"reset 0", "measure 1 to 0", false}, {"reset 0 if 1", "measure 2 to 1", true}, {"measure 2 to 11", "h 0 if !11", true},
		{"h 0 if 0", "measure 1 to 1", false}, {"x 0", "measure 2 to 0", false}, {"x 3 if 2", "h 2", false},
	} {
		c := circuit(t, "qubits 4 bits 12", tried.first, tried.second)
		begins, end := scheduled(t, c, api.Times{One: 3, Two: 3, Turn: 3, Look: 3})
		want := []int{0, 0}
		if tried.waits {
			want[1] = 3
		}
		equal(t, tried.first+", "+tried.second, begins, want)
		equal(t, tried.first+", "+tried.second, end, want[1]+3)
	}
}

// An operation waits for the last that is over of those that it meets, which need not
// be the last in the list; those that it doesn't meet don't matter.
func TestTheLastThatIsOver(t *testing.T) {
	begins, end := scheduled(t, circuit(t, "qubits 4 bits 2", "measure 0 to 0", "h 1", "x 0 on 1", "h 2", "p 1 3", "x 3 on 2", "h 1", "measure 2 to 1", "x 3 if 0", "phase 2 if 1"), unlike)
	equal(t, "begin", begins, []int{0, 0, 1000, 0, 0, 100, 1010, 110, 1000, 1110})
	equal(t, "end", end, 1210)
	begins, end = scheduled(t, circuit(t, "qubits 3 bits 0", "p 1 0", "h 1", "x 1 on 0", "h 2", "phase 1"), api.Times{One: 2, Two: 3, Turn: 50})
	equal(t, "begin", begins, []int{0, 0, 50, 0, 0})
	equal(t, "end", end, 53)
	begins, end = scheduled(t, circuit(t, "qubits 2 bits 0", "phase 7", "h 0"), api.Times{One: 2, Turn: 50})
	equal(t, "a Phase stands alone", begins, []int{0, 0})
	equal(t, "the last that is over is not the last", end, 50)
}

func TestTimesOfNothing(t *testing.T) {
	lines := []string{"qubits 2 bits 1", "h 0", "x 1 on 0", "p 3 1", "measure 1 to 0", "x 0 if 0", "reset 0"}
	c := circuit(t, lines...)
	begins, end := scheduled(t, c, api.Times{})
	equal(t, "all at once", begins, make([]int, 6))
	equal(t, "all at once", end, 0)
	for i, times := range []api.Times{{One: 1}, {Two: 1}, {Turn: 1}, {Look: 1}} {
		begins, end = scheduled(t, c, times)
		equal(t, "begin", begins, [][]int{{0, 1, 1, 1, 1, 2}, {0, 0, 1, 1, 1, 1}, {0, 0, 0, 1, 1, 1}, {0, 0, 0, 0, 1, 1}}[i])
		equal(t, "end", end, []int{2, 1, 1, 2}[i])
	}
}

func TestNoOperationsNoTime(t *testing.T) {
	for _, times := range []api.Times{{}, unlike, {One: 1000000, Two: 1000000, Turn: 1000000, Look: 1000000}} {
		begins, end, f := route.Schedule(api.Circuit{Qubits: 1}, times)
		equal(t, "fault", f, none)
		equal(t, "begin", begins, []int{})
		equal(t, "end", end, 0)
	}
}

// Times at their limits, and beyond them, for operations that last so long or don't.
func TestLimitsOfTimes(t *testing.T) {
	circuits := []api.Circuit{{Qubits: 1}, circuit(t, "qubits 2 bits 1", "h 0", "x 1 on 0", "p 3 1", "measure 1 to 0", "x 0 if 0", "reset 0")}
	for _, c := range circuits {
		for at := range 4 {
			set := func(lasts, others int) api.Times {
				times := api.Times{One: others, Two: others, Turn: others, Look: others}
				*[]*int{&times.One, &times.Two, &times.Turn, &times.Look}[at] = lasts
				return times
			}
			for _, lasts := range []int{0, 1, 999999, 1000000} {
				scheduled(t, c, set(lasts, 0))
				scheduled(t, c, set(lasts, 7))
				scheduled(t, c, set(lasts, 1000000))
			}
			for _, lasts := range []int{math.MinInt64, -1000000, -1, 1000001, 1 << 32, math.MaxInt64} {
				unscheduled(t, "beyond", c, set(lasts, 0), fault(api.ErrRange, at))
				unscheduled(t, "beyond", c, set(lasts, 1000000), fault(api.ErrRange, at))
				unscheduled(t, "all beyond", c, set(-1, lasts), fault(api.ErrRange, 0))
			}
		}
	}
	unscheduled(t, "two beyond", circuits[1], api.Times{Turn: -1, Look: -1}, fault(api.ErrRange, 2))
	unscheduled(t, "two beyond", circuits[1], api.Times{Two: 1000001, Look: -1}, fault(api.ErrRange, 1))
}

// As many operations as can be, which last as long as can be, one behind the other and
// side by side.
func TestLongSchedules(t *testing.T) {
	times := api.Times{One: 1000000, Two: 1000000, Turn: 1000000, Look: 1000000}
	c := api.Circuit{Qubits: 12, Bits: 12, Ops: slices.Repeat([]api.Op{{Kind: api.Measure}, {Kind: api.H}, cx(0, 1), {Kind: api.P}}, api.MaxOps/4)}
	begins, end, f := route.Schedule(c, times)
	equal(t, "fault", f, none)
	equal(t, "end", end, 4096000000)
	for i, begin := range begins {
		equal(t, "begin", begin, i*1000000)
	}
	for i := range c.Ops {
		c.Ops[i] = api.Op{Kind: api.H, Q: i % 12}
	}
	begins, end, _ = route.Schedule(c, times)
	equal(t, "the last begins", begins[api.MaxOps-1], 341000000)
	equal(t, "the last is over", end, 342000000)
	c.Ops = append(c.Ops, api.Op{Kind: api.H})
	unscheduled(t, "one more", c, times, fault(api.ErrLong, 0))
	c.Ops = slices.Repeat([]api.Op{{Kind: api.Phase, K: 3}}, api.MaxOps)
	begins, end, _ = route.Schedule(c, times)
	equal(t, "Phases", begins, make([]int, api.MaxOps))
	equal(t, "Phases", end, 1000000)
}

// What Fit refuses for want of links or room is no matter here.
func TestManySchedules(t *testing.T) {
	for i := range 3000 {
		n := noise(i)
		c := n.circuit(1+n.below(12), n.below(13), n.below(60))
		times := api.Times{One: n.below(5), Two: n.below(20), Turn: n.below(3), Look: n.below(100)}
		if i%7 == 0 {
			times = api.Times{One: n.below(1000001), Two: n.below(1000001), Turn: n.below(1000001), Look: n.below(1000001)}
		}
		scheduled(t, c, times)
	}
}

// A fitted circuit has a schedule, too: no operation begins ahead of those that it
// meets, and the last one is over at the end.
func TestSchedulesOfFittedCircuits(t *testing.T) {
	for i := range 100 {
		n := noise(i)
		places := 1 + n.below(12)
		out := formed(t, n.circuit(1+n.below(places), n.below(4), 20), n.device(places))
		scheduled(t, out.Circuit, unlike)
	}
}

// Of a circuit and times that have all faults at once, they are mended one by one: each
// time the next one in the document's order is told.
func TestTheFirstFaultOfSchedule(t *testing.T) {
	c := api.Circuit{Qubits: 0, Bits: -1, Ops: slices.Repeat([]api.Op{{Kind: api.H, Ctl: []int{1}}}, api.MaxOps+1)}
	c.Ops[1] = api.Op{Kind: 9}
	times := api.Times{One: -1, Two: 1000001, Turn: math.MinInt64, Look: math.MaxInt64}
	for i, step := range []struct {
		want api.Fault
		mend func()
	}{
		{fault(api.ErrQubits, 0), func() { c.Qubits = 3 }},
		{fault(api.ErrBits, 0), func() { c.Bits = 1 }},
		{fault(api.ErrLong, 0), func() { c.Ops = c.Ops[:4] }},
		{fault(api.ErrKind, 1), func() { c.Ops[1] = api.Op{Kind: api.X, Q: 1, Ctl: []int{0, 2}} }},
		{fault(api.ErrControl, 0), func() { c.Ops[0] = cx(0, 1) }},
		{fault(api.ErrControl, 1), func() { c.Ops[1] = api.Op{Kind: api.P, Q: 1, Ctl: []int{0}} }},
		{fault(api.ErrControl, 1), func() { c.Ops = c.Ops[:1] }},
		{fault(api.ErrRange, 0), func() { times.One = 0 }},
		{fault(api.ErrRange, 1), func() { times.Two = 1000000 }},
		{fault(api.ErrRange, 2), func() { times.Turn = 1 }},
		{fault(api.ErrRange, 3), func() { times.Look = 1 }},
	} {
		if _, _, got := route.Schedule(c, times); got != step.want {
			t.Fatalf("step %d: %v, want %v", i, got, step.want)
		}
		step.mend()
	}
	scheduled(t, c, times)
}

// Circuits and times without order, some with odd things in them.
func TestFaultsOfManySchedules(t *testing.T) {
	seen := map[int]int{}
	for i := range 8000 {
		n := noise(i)
		c := n.circuit(1+n.below(12), n.below(13), n.below(30))
		times := api.Times{One: n.below(5), Two: n.below(20), Turn: n.below(3), Look: n.below(100)}
		if i%2 == 0 {
			n.spoil(&c)
		}
		if i%3 == 0 {
			*[]*int{&times.One, &times.Two, &times.Turn, &times.Look}[n.below(4)] = n.odd()
		}
		want := timesFault(c, times)
		seen[want.Code]++
		if want == none {
			scheduled(t, c, times)
		} else {
			unscheduled(t, "without order", c, times, want)
		}
	}
	for _, code := range []int{0, api.ErrKind, api.ErrAngle, api.ErrQubit, api.ErrClone, api.ErrBit, api.ErrIf, api.ErrControl, api.ErrRange} {
		equal(t, "circuits with each fault", seen[code] > 10, true)
	}
}
