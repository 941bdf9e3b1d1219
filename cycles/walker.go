package cycles

// visit is a node on the way, and which of its steps is the next one to be gone.
type visit struct {
	node, step int
}

// walker goes through a graph depth-first, with a stack of its own, since graphs may be deeper than calls. It goes to those nodes that may be, and does something with each component.
type walker struct {
	next  [][]int
	may   func(node int) bool
	done  func(component []int)
	count int     // of nodes met
	met   []int   // for each node how many had been met with it; 0: it was not met
	low   []int   // the earliest node that is still open to which one can come back
	open  []bool  // in no component yet
	nodes []int   // those that are open, as they were met
	way   []visit // from the root to where the walk is
}

func newWalker(next [][]int) *walker {
	n := len(next)
	return &walker{next: next, met: make([]int, n), low: make([]int, n), open: make([]bool, n)}
}

// walk goes to all nodes of a list that may be, and to what can be come to from these.
func (w *walker) walk(roots []int) {
	for _, root := range roots {
		w.try(root)
		for len(w.way) > 0 {
			w.move()
		}
	}
}

// forget makes a node one that was not met.
func (w *walker) forget(node int) { w.met[node] = 0 }

// move goes the next step from where the walk is; where there is none any more, back.
func (w *walker) move() {
	here := &w.way[len(w.way)-1]
	if here.step == len(w.next[here.node]) {
		w.leave(here.node)
		return
	}
	node, to := here.node, w.next[here.node][here.step]
	here.step++
	if to < 0 || to >= len(w.next) {
		return
	}
	if w.open[to] {
		w.low[node] = min(w.low[node], w.met[to])
	}
	w.try(to)
}

// try goes to a node, if it may be and was not met before.
func (w *walker) try(node int) {
	if w.met[node] != 0 || !w.may(node) {
		return
	}
	w.count++
	w.met[node], w.low[node], w.open[node] = w.count, w.count, true
	w.nodes = append(w.nodes, node)
	w.way = append(w.way, visit{node: node})
}

// leave goes back from a node; if it was the first one of its component, that is done.
func (w *walker) leave(node int) {
	w.way = w.way[:len(w.way)-1]
	if len(w.way) > 0 {
		before := w.way[len(w.way)-1].node
		w.low[before] = min(w.low[before], w.low[node])
	}
	if w.low[node] != w.met[node] {
		return
	}
	first := len(w.nodes) - 1
	for w.nodes[first] != node {
		first--
	}
	component := w.nodes[first:]
	w.nodes = w.nodes[:first]
	for _, node := range component {
		w.open[node] = false
	}
	w.done(component)
}
