package route_test

import (
	"fmt"
	"math"
	"slices"
	"testing"

	"qloom/api"
	"qloom/route"
)

// checked holds Check, and Fit of a circuit that has no fault, to a device's fault.
func checked(t *testing.T, what string, d api.Device, want api.Fault) {
	t.Helper()
	if got := route.Check(d); got != want {
		t.Errorf("%s: Check of %s: %v, want %v", what, short(d), got, want)
	}
	c := api.Circuit{Qubits: 1, Ops: []api.Op{{Kind: api.H}}}
	if want != none {
		refused(t, what, c, d, want)
	} else {
		formed(t, c, d)
	}
}

func TestNumbersOfQubits(t *testing.T) {
	for _, n := range []int{math.MinInt64, -1, 0, 13, 14, 16, 64, 1 << 32, math.MaxInt64} {
		checked(t, "no number", api.Device{N: n}, fault(api.ErrQubits, 0))
		checked(t, "no number", api.Device{N: n, Links: row(12).Links}, fault(api.ErrQubits, 0))
		checked(t, "no number", api.Device{N: n, Links: [][2]int{{0, 0}, {n, n}}}, fault(api.ErrQubits, 0))
	}
	for n := 1; n <= 12; n++ {
		for _, d := range known(n) {
			checked(t, "a number", d, none)
		}
	}
}

func TestDevicesOfOneQubit(t *testing.T) {
	checked(t, "no links", api.Device{N: 1}, none)
	checked(t, "no links", api.Device{N: 1, Links: [][2]int{}}, none)
	checked(t, "to itself", api.Device{N: 1, Links: [][2]int{{0, 0}}}, fault(api.ErrClone, 0))
	checked(t, "to none", api.Device{N: 1, Links: [][2]int{{0, 1}}}, fault(api.ErrQubit, 0))
	checked(t, "to none", api.Device{N: 1, Links: [][2]int{{-1, 0}}}, fault(api.ErrQubit, 0))
}

// Each fault of a link, at each place among good links.
func TestFaultsOfLinks(t *testing.T) {
	good := circle(5).Links
	for _, tried := range []struct {
		code int
		link [2]int
	}{
		{api.ErrQubit, [2]int{5, 0}},
		{api.ErrQubit, [2]int{0, 5}},
		{api.ErrQubit, [2]int{-1, 0}},
		{api.ErrQubit, [2]int{0, -1}},
		{api.ErrQubit, [2]int{5, 5}},
		{api.ErrQubit, [2]int{-1, -1}},
		{api.ErrQubit, [2]int{math.MinInt64, math.MaxInt64}},
		{api.ErrQubit, [2]int{12, 3}},
		{api.ErrQubit, [2]int{3, 1 << 32}},
		{api.ErrClone, [2]int{0, 0}},
		{api.ErrClone, [2]int{4, 4}},
	} {
		for at := range len(good) + 1 {
			d := api.Device{N: 5, Links: slices.Insert(slices.Clone(good), at, tried.link)}
			checked(t, "a link", d, fault(tried.code, at))
		}
	}
}

// A link that is there twice, in either order, is refused at the later of the two.
func TestLinksTwice(t *testing.T) {
	for n := 2; n <= 12; n++ {
		for _, d := range known(n) {
			for first, link := range d.Links {
				for second := first + 1; second <= len(d.Links); second++ {
					for _, again := range [][2]int{link, {link[1], link[0]}} {
						twice := api.Device{N: n, Links: slices.Insert(slices.Clone(d.Links), second, again)}
						if got := route.Check(twice); got != fault(api.ErrTwice, second) {
							t.Fatalf("Check of %s: %v, want ErrTwice at %d", short(twice), got, second)
						}
					}
				}
			}
		}
	}
}

func TestDevicesInParts(t *testing.T) {
	for n := 2; n <= 12; n++ {
		checked(t, "no links", api.Device{N: n}, fault(api.ErrApart, 0))
		for lost := range n - 1 {
			d := row(n)
			d.Links = slices.Delete(d.Links, lost, lost+1)
			checked(t, "a row in two", d, fault(api.ErrApart, 0))
			d.Links = append(d.Links, [2]int{n - 1, 0})
			checked(t, "a circle but for one", d, none)
		}
		for alone := range n {
			d := full(n)
			d.Links = slices.DeleteFunc(d.Links, func(link [2]int) bool { return link[0] == alone || link[1] == alone })
			checked(t, "one alone", d, fault(api.ErrApart, 0))
		}
	}
	checked(t, "two circles", api.Device{N: 6, Links: [][2]int{{0, 2}, {2, 4}, {4, 0}, {1, 3}, {3, 5}, {5, 1}}}, fault(api.ErrApart, 0))
	checked(t, "two circles, linked", api.Device{N: 6, Links: [][2]int{{0, 2}, {2, 4}, {4, 0}, {1, 3}, {3, 5}, {5, 1}, {5, 0}}}, none)
}

// All devices of up to six qubits whose links have no fault.
func TestAllSetsOfLinks(t *testing.T) {
	parts := map[api.Fault]int{}
	for n := 1; n <= 6; n++ {
		for choice := range 1 << (n * (n - 1) / 2) {
			d := linked(n, choice)
			want := deviceFault(d)
			parts[want]++
			if got := route.Check(d); got != want {
				t.Fatalf("Check of %s: %v, want %v", short(d), got, want)
			}
		}
	}
	// So many graphs of up to six points are known to be in one part.
	equal(t, "in one part", parts[none], 1+1+4+38+728+26704)
	equal(t, "with no other fault", len(parts), 2)
}

// All lists of three links of small numbers, good ones or not.
func TestAllShortListsOfLinks(t *testing.T) {
	for n := range 4 {
		var all [][2]int
		for a := -1; a <= n; a++ {
			for b := -1; b <= n; b++ {
				all = append(all, [2]int{a, b})
			}
		}
		for choice := range len(all) * len(all) * len(all) {
			first, second, third := choice%len(all), choice/len(all)%len(all), choice/len(all)/len(all)
			links := [][2]int{all[first], all[second], all[third]}
			for length := range 4 {
				d := api.Device{N: n, Links: links[:length]}
				if got, want := route.Check(d), deviceFault(d); got != want {
					t.Fatalf("Check of %s: %v, want %v", short(d), got, want)
				}
			}
		}
	}
}

// Of a device that has all faults, they are mended one by one: each time the next one
// in the document's order is told.
func TestTheFirstFaultOfADevice(t *testing.T) {
	d := api.Device{N: 13, Links: [][2]int{{0, 1}, {1, 12}, {2, 2}, {1, 0}, {-1, -1}, {0, 1}}}
	for i, step := range []struct {
		want api.Fault
		mend func()
	}{
		{fault(api.ErrQubits, 0), func() { d.N = 12 }},
		{fault(api.ErrQubit, 1), func() { d.Links[1] = [2]int{1, 2} }},
		{fault(api.ErrClone, 2), func() { d.Links[2] = [2]int{2, 3} }},
		{fault(api.ErrTwice, 3), func() { d.Links[3] = [2]int{3, 4} }},
		{fault(api.ErrQubit, 4), func() { d.Links[4] = [2]int{4, 4} }},
		{fault(api.ErrClone, 4), func() { d.Links[4] = [2]int{4, 5} }},
		{fault(api.ErrTwice, 5), func() { d.Links[5] = [2]int{5, 6} }},
		{fault(api.ErrApart, 0), func() { d.N = 7 }},
	} {
		if got := route.Check(d); got != step.want {
			t.Fatalf("step %d: %v, want %v", i, got, step.want)
		}
		step.mend()
	}
	checked(t, "all mended", d, none)
}

// Devices without order, some with odd things in them.
func TestFaultsOfManyDevices(t *testing.T) {
	seen := map[string]int{}
	for i := range 20000 {
		n := noise(i)
		d := n.device(1 + n.below(12))
		for range n.below(3) {
			n.spoilDevice(&d)
		}
		want := deviceFault(d)
		seen[fmt.Sprint(want.Code)]++
		checked(t, "a device without order", d, want)
	}
	for _, code := range []int{0, api.ErrQubits, api.ErrQubit, api.ErrClone, api.ErrTwice, api.ErrApart} {
		equal(t, "devices with each fault", seen[fmt.Sprint(code)] > 100, true)
	}
}
