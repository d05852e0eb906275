package fate

import (
	"math"
	"slices"
	"testing"

	"waystone/api"
)

// wantRight asks Right of a network.
func wantRight(t *testing.T, what string, n api.Network, want bool) {
	t.Helper()
	if Right(n) != want {
		t.Errorf("%s: %v: right is not %v", what, n, want)
	}
}

// P9.1, Y1: the least networks, ordinary ones and the greatest are right.
func TestRight(t *testing.T) {
	for _, n := range rights() {
		wantRight(t, "right", n, true)
	}
	for _, n := range drawn(400) {
		wantRight(t, "drawn", n, true)
	}
}

// P9.1, Y1: a network without rules is right just if its topology is.
func TestRightWithoutRules(t *testing.T) {
	for _, n := range rights() {
		n.Rules = nil
		wantRight(t, "no rules", n, true)
		n.Rules = []api.Rule{}
		wantRight(t, "no rules, not nil", n, true)
	}
	wantRight(t, "nothing", api.Network{}, false)
	wantRight(t, "nothing, not nil", net(top([]api.Link{}, []int{}...)), false)
}

// wrongTopologies are such as are not right, each in a way of its own.
func wrongTopologies() []api.Topology {
	full := most().T
	more := top(append(slices.Clone(full.Links), full.Links[0]), full.Ports...)
	return []api.Topology{
		{}, top([]api.Link{}, []int{}...), top(nil, 1, 1, 1, 1, 1, 1, 1, 1, 1), line(9).T, more,
		top(nil, 0), top(nil, -1), top(nil, 5), top(nil, 2, 2, 0), top(nil, 2, 2, math.MaxInt), top(nil, math.MinInt, 2),
		top([]api.Link{ln(0, 0, 2, 0)}, 2, 2), top([]api.Link{ln(-1, 0, 1, 0)}, 2, 2), top([]api.Link{ln(0, 2, 1, 0)}, 2, 2), top([]api.Link{ln(0, 0, 1, -1)}, 2, 2),
		top([]api.Link{ln(0, 0, 1, 0), ln(1, 1, 0, 0)}, 2, 2), top([]api.Link{ln(0, 0, 1, 0), ln(0, 1, 1, 0)}, 2, 2), top([]api.Link{ln(0, 0, 0, 0)}, 2, 2),
	}
}

// P9.1, Y1: a network whose topology is not right is not, be there rules or not.
func TestRightTopology(t *testing.T) {
	for _, x := range wrongTopologies() {
		wantRight(t, "a topology that is not right", net(x), false)
		wantRight(t, "a topology that is not right, and rules", net(x, by(0, 0, all(), 5), no(api.Deny, 0, rg(3, 9), 7)), false)
	}
}

// P9.1, Y1: a network of which one rule is not right is not, wherever that stands.
func TestRightRules(t *testing.T) {
	for i, r := range ordinary().Rules {
		wrong := []func(r *api.Rule){
			func(r *api.Rule) { r.ID = 0 },
			func(r *api.Rule) { r.ID = -r.ID },
			func(r *api.Rule) { r.ID = api.MaxID + 1 },
			func(r *api.Rule) { r.Prio = -1 },
			func(r *api.Rule) { r.Prio = api.MaxPrio + 1 },
			func(r *api.Rule) { r.Kind = -1 },
			func(r *api.Rule) { r.Kind = 4 },
			func(r *api.Rule) { r.R = rg(5, 4) },
			func(r *api.Rule) { r.R = rg(last, 0) },
			func(r *api.Rule) { r.Port = -1 },
			func(r *api.Rule) { r.Port = api.MaxPorts },
			func(r *api.Rule) { r.Device = -1 },
			func(r *api.Rule) { r.Device = api.MaxDevices },
		}
		if r.Kind != api.Forward { // it fits by any port, but is right by 0 alone
			wrong = append(wrong, func(r *api.Rule) { r.Port = 1 })
		}
		for k, do := range wrong {
			n := ordinary()
			do(&n.Rules[i])
			if Right(n) {
				t.Errorf("%d: right: %v", k, n.Rules[i])
			}
		}
	}
}

// P9.1, Y1: a network of right rules that are not right as a list is not: too many, of one ID, or not rising.
func TestRightList(t *testing.T) {
	for _, many := range []int{39, 40, 41, 42, 1000} {
		l := slices.Repeat([]api.Rule{no(api.Drop, 0, rg(3, 9), 5)}, many)
		wantRight(t, "so many rules", net(top(nil, 1), l...), many <= api.MaxRules)
	}
	for i := range len(ordinary().Rules) - 1 {
		n := ordinary()
		n.Rules[i+1].ID = n.Rules[i].ID
		wantRight(t, "one ID twice", n, false)
		n = ordinary()
		n.Rules[i], n.Rules[i+1] = n.Rules[i+1], n.Rules[i]
		wantRight(t, "not rising", n, false)
	}
	n := ordinary()
	n.Rules[len(n.Rules)-1].ID = api.MaxID
	wantRight(t, "the greatest ID", n, true)
}

// P9.1, Y1: a network with a right rule of a device above its last one is not right.
func TestRightDevice(t *testing.T) {
	for many := 1; many <= api.MaxDevices; many++ {
		for device := range api.MaxDevices {
			for _, r := range []api.Rule{by(device, 0, all(), 5), no(api.Drop, device, all(), 5), no(api.Permit, device, all(), 5), no(api.Deny, device, all(), 5)} {
				x := line(many)
				x.Rules = append(x.Rules, r)
				x.Rules[many].ID = 100
				wantRight(t, "a rule of a device", x, device < many)
			}
		}
	}
}

// P9.1, Y1: a network with a right rule by a port above the last one of its device is not right, whatever another device has.
func TestRightPort(t *testing.T) {
	ports := ordinary().T.Ports
	for device, many := range ports {
		for port := range api.MaxPorts {
			n := ordinary()
			n.Rules = append(n.Rules, by(device, port, rg(3, 9), 5))
			n.Rules[len(n.Rules)-1].ID = 100
			wantRight(t, "a rule by a port", n, port < many)
			n.Rules = slices.Insert(n.Rules[:len(n.Rules)-1], 0, n.Rules[len(n.Rules)-1])
			for i := range n.Rules {
				n.Rules[i].ID = i + 1
			}
			wantRight(t, "a first rule by a port", n, port < many)
		}
	}
}
