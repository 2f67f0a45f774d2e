package threads

// crowd: threads in their order, each once, and at most so many of them.
type crowd struct {
	threads []thread
	most    int
	over    bool // there was one more
}

func (c *crowd) add(t thread) {
	place := c.placeOf(t)
	if place < len(c.threads) && c.threads[place] == t {
		return
	}
	if len(c.threads) >= c.most {
		c.over = true
		return
	}
	c.threads = append(c.threads, t)
	for i := len(c.threads) - 1; i > place; i-- {
		c.threads[i] = c.threads[i-1]
	}
	c.threads[place] = t
}

// placeOf answers how many threads of the crowd are ahead of one.
func (c *crowd) placeOf(t thread) int {
	low := 0
	high := len(c.threads)
	for low < high {
		middle := low + (high-low)/2
		if c.threads[middle].isAhead(t) {
			low = middle + 1
		} else {
			high = middle
		}
	}
	return low
}
