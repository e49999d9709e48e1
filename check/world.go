package check

import "pallet/api"

// told is the world of which statements tell, each of which may be by itself, and among which is how many nodes there are.
func told(l []api.Stmt) api.Conf {
	// Where that stands is not known ahead: there is room for as many as there may be.
	c := api.Conf{Drift: make([]int64, api.MaxNodes), Power: make([]int64, api.MaxNodes), Delay: make([][]int64, api.MaxNodes)}
	for i := range c.Delay {
		c.Delay[i] = make([]int64, api.MaxNodes)
	}
	all := tells(&c)
	for _, x := range l {
		if tell, is := all[x.Word]; is {
			tell(x.Nums)
		}
	}
	many := c.M.Nodes
	c.Drift, c.Power, c.Delay = c.Drift[:many], c.Power[:many], c.Delay[:many]
	for i, d := range c.Delay {
		c.Delay[i] = d[:many]
	}
	return c
}

// tells are what the numbers behind each word tell of a world.
func tells(c *api.Conf) map[string]func(n []api.Num) {
	return map[string]func(n []api.Num){
		"nodes":   func(n []api.Num) { c.M.Nodes = int(n[0].N) },
		"tick":    func(n []api.Num) { c.Tick = n[0].N },
		"slot":    func(n []api.Num) { c.M.Slot, c.M.Lead, c.M.Frame, c.M.Window = n[0].N, n[1].N, n[2].N, n[3].N },
		"horizon": func(n []api.Num) { c.Horizon = n[0].N },
		"drift":   func(n []api.Num) { c.Drift[n[0].N] = n[1].N },
		"delay":   func(n []api.Num) { c.Delay[n[0].N][n[1].N] = n[2].N },
		"power":   func(n []api.Num) { c.Power[n[0].N] = n[1].N },
		"guard":   func(n []api.Num) { c.Guard = n[0].N == 1 },
	}
}

// telling are the statements that tell of a world that may be.
func telling(c api.Conf) []api.Stmt {
	var l []api.Stmt
	all := forms()
	say := func(word string, nums ...int64) {
		x := api.Stmt{Word: word}
		for i, n := range nums {
			x.Nums = append(x.Nums, api.Num{N: n, Time: all[word].nums[i].isTime})
		}
		l = append(l, x)
	}
	// What is 0 need not be told.
	differ := func(word string, rest []int64, nodes ...int64) {
		for i, n := range rest {
			if n != 0 {
				say(word, append(nodes, int64(i), n)...)
			}
		}
	}
	say("nodes", int64(c.M.Nodes))
	say("tick", c.Tick)
	say("slot", c.M.Slot, c.M.Lead, c.M.Frame, c.M.Window)
	say("horizon", c.Horizon)
	differ("drift", c.Drift)
	differ("power", c.Power)
	for from, d := range c.Delay {
		differ("delay", d, int64(from))
	}
	if c.Guard {
		say("guard", 1)
	}
	return l
}
