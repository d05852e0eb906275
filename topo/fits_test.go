package topo

import (
	"math"
	"slices"
	"testing"

	"waystone/api"
)

// kinds are all four.
func kinds() []api.RuleKind {
	return []api.RuleKind{api.Forward, api.Drop, api.Permit, api.Deny}
}

// ruleOf is a right rule of that kind, if there is such a device.
func ruleOf(kind api.RuleKind, device, port int) api.Rule {
	return api.Rule{ID: 1, Device: device, Prio: 5, Kind: kind, R: api.Range{From: 3, To: 9}, Port: port}
}

// wantFits asks Fits of rules.
func wantFits(t *testing.T, x api.Topology, want bool, l ...api.Rule) {
	t.Helper()
	if Fits(x, l) != want {
		t.Errorf("%v: %v: fits is not %v", x, l, want)
	}
}

// P8.1, O1: no rules fit.
func TestFitsNone(t *testing.T) {
	for _, x := range rights() {
		wantFits(t, x, true)
		wantFits(t, x, true, []api.Rule{}...)
	}
}

// P8.1, O1: a rule that forwards, by each port that there is, and by those beside them.
func TestFitsForward(t *testing.T) {
	for _, x := range rights() {
		for _, p := range allPorts(x) {
			wantFits(t, x, true, ruleOf(api.Forward, p.Device, p.Port))
		}
		for _, p := range farPorts(x) {
			wantFits(t, x, false, ruleOf(api.Forward, p.Device, p.Port))
		}
	}
}

// P8.1, O1: a port above the last of its device does not fit, where another device has such a port.
func TestFitsOwnPorts(t *testing.T) {
	x := of([]api.Link{ln(0, 1, 1, 0)}, 2, 4, 1)
	wantFits(t, x, true, ruleOf(api.Forward, 1, 3))
	wantFits(t, x, true, ruleOf(api.Forward, 0, 1))
	wantFits(t, x, true, ruleOf(api.Forward, 0, 0))
	wantFits(t, x, false, ruleOf(api.Forward, 0, 2))
	wantFits(t, x, false, ruleOf(api.Forward, 0, 3))
	wantFits(t, x, false, ruleOf(api.Forward, 2, 1))
	wantFits(t, x, false, ruleOf(api.Forward, 3, 0))
}

// P8.1, O1: of a rule that does not forward the device alone counts.
func TestFitsOthers(t *testing.T) {
	for _, kind := range []api.RuleKind{api.Drop, api.Permit, api.Deny} {
		for _, x := range rights() {
			for d := range x.Ports {
				for _, port := range []int{math.MinInt, -1, 0, 1, 3, 4, math.MaxInt} {
					wantFits(t, x, true, ruleOf(kind, d, port))
				}
			}
			for _, far := range append(ends(), len(x.Ports), len(x.Ports)+1) {
				wantFits(t, x, false, ruleOf(kind, far, 0))
			}
		}
	}
}

// P8.1, O1: one rule that does not fit is enough, wherever it stands.
func TestFitsAll(t *testing.T) {
	x := ordinary()
	var l []api.Rule
	for i := range api.MaxRules {
		r := ruleOf(kinds()[i%4], i%5, 0)
		r.ID = i + 1
		l = append(l, r)
	}
	wantFits(t, x, true, l...)
	for i := range l {
		for _, kind := range kinds() {
			y := slices.Clone(l)
			y[i] = ruleOf(kind, 5, 0)
			wantFits(t, x, false, y...)
		}
		y := slices.Clone(l)
		y[i] = ruleOf(api.Forward, 0, 2)
		wantFits(t, x, false, y...)
		y[i] = ruleOf(api.Forward, 0, 1)
		wantFits(t, x, true, y...)
	}
}
