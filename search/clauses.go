package search

// clauses is all clauses, in one long list of numbers: one behind the other,
// each a head and then its literals. A clause is known by where its head is.
type clauses struct {
	numbers []int
	// learnt is how many learnt clauses there are.
	learnt int
	// waste is how many numbers belong to deleted clauses: these lie on until
	// the list is made shorter.
	waste int
}

// none stands where there is no clause.
const none = -1

// What a head tells, by where it stands in the head.
const (
	sizeAt = iota // how many literals there are
	kindAt        // given, learnt or deleted
	busyAt        // how often the clause had to do with conflicts of late
	headSize
)

// The kinds of clauses.
const (
	given = iota
	learnt
	deleted
)

// add lays a clause to the list and says where it is.
func (c *clauses) add(literals []int, kind int) int {
	at := len(c.numbers)
	c.numbers = append(c.numbers, len(literals), kind, 0)
	c.numbers = append(c.numbers, literals...)
	if kind == learnt {
		c.learnt++
	}
	return at
}

// behind is where the next clause is.
func (c *clauses) behind(at int) int {
	return at + headSize + c.size(at)
}

func (c *clauses) size(at int) int {
	return c.numbers[at+sizeAt]
}

func (c *clauses) kind(at int) int {
	return c.numbers[at+kindAt]
}

func (c *clauses) busy(at int) int {
	return c.numbers[at+busyAt]
}

// use makes a clause busier.
func (c *clauses) use(at int) {
	c.numbers[at+busyAt]++
}

// rest makes all clauses half as busy, so that what was long ago counts less.
func (c *clauses) rest() {
	for at := 0; at < len(c.numbers); at = c.behind(at) {
		c.numbers[at+busyAt] /= 2
	}
}

// literals is the literals of a clause, where they lie.
func (c *clauses) literals(at int) []int {
	return c.numbers[at+headSize : c.behind(at)]
}

// delete takes a learnt clause away.
func (c *clauses) delete(at int) {
	c.numbers[at+kindAt] = deleted
	c.learnt--
	c.waste += headSize + c.size(at)
}

// shorten makes the list anew without what is deleted. It answers what tells,
// by where a clause was, where it is now.
func (c *clauses) shorten() func(at int) int {
	old := *c
	c.numbers = make([]int, 0, len(old.numbers)-old.waste)
	c.waste = 0
	for at := 0; at < len(old.numbers); at = old.behind(at) {
		if old.kind(at) == deleted {
			continue
		}
		now := len(c.numbers)
		c.numbers = append(c.numbers, old.numbers[at:old.behind(at)]...)
		// How busy the clause is has been copied: its old place is free.
		old.numbers[at+busyAt] = now
	}
	return func(at int) int { return old.numbers[at+busyAt] }
}
