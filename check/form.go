package check

import "pallet/api"

// number is what a number of a statement is to be: whether it is a time, and from what to what.
type number struct {
	isTime   bool
	from, to int64
}

// The numbers of which a world is made, too.
var (
	period = number{isTime: true, from: 1, to: api.MaxPeriod}
	when   = number{isTime: true, to: api.MaxHorizon}
	drift  = number{from: -api.MaxDrift, to: api.MaxDrift}
)

func (x number) may(n int64) bool { return x.from <= n && n <= x.to }

// form is what the statements of a word are: their numbers, how many of these, the first ones, name nodes, whether they tell of the world, and whether they have a block.
type form struct {
	nums  []number
	nodes int
	world bool
	block bool
}

// forms are what the statements of each word are.
func forms() map[string]form {
	node := number{to: api.MaxNodes - 1}
	ticks := number{from: 1, to: api.MaxSlot}
	return map[string]form{
		"nodes":   {world: true, nums: []number{{from: api.MinNodes, to: api.MaxNodes}}},
		"tick":    {world: true, nums: []number{period}},
		"slot":    {world: true, nums: []number{ticks, ticks, ticks, ticks}},
		"horizon": {world: true, nums: []number{when}},
		"drift":   {world: true, nodes: 1, nums: []number{node, drift}},
		"delay":   {world: true, nodes: 2, nums: []number{node, node, {isTime: true, to: api.MaxDelay}}},
		"power":   {world: true, nodes: 1, nums: []number{node, when}},
		"guard":   {world: true, nums: []number{{to: 1}}},
		"silence": {nodes: 1, nums: []number{node, when, when}},
		"corrupt": {nodes: 1, nums: []number{node, when, when}},
		"cut":     {nums: []number{{to: api.Channels - 1}, when, when}},
		"babble":  {nodes: 1, nums: []number{node, when}},
		"crash":   {nodes: 1, nums: []number{node, when}},
		"repeat":  {block: true, nums: []number{{from: 1, to: api.MaxRepeat}, when}},
	}
}

// one tells whether a statement may be by itself.
func one(all map[string]form, x api.Stmt) api.Errno {
	f, is := all[x.Word]
	if !is || x.Block != f.block || !f.fits(x) {
		return api.ErrForm
	}
	if !f.holds(x) {
		return api.ErrArg
	}
	return api.OK
}

// fits tells whether a statement's numbers are as many, and of the kinds, as they are to be.
func (f form) fits(x api.Stmt) bool {
	if len(x.Nums) != len(f.nums) {
		return false
	}
	for i, n := range x.Nums {
		if n.Time != f.nums[i].isTime {
			return false
		}
	}
	return true
}

// holds tells whether the numbers of a statement that fits may be; where it names two nodes, they are two.
func (f form) holds(x api.Stmt) bool {
	for i, n := range x.Nums {
		if !f.nums[i].may(n.N) {
			return false
		}
	}
	named := f.named(x)
	return len(named) < 2 || named[0].N != named[1].N
}

// named are the numbers by which a statement that fits names nodes.
func (f form) named(x api.Stmt) []api.Num { return x.Nums[:f.nodes] }
