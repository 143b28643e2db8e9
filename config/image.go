package config

import "clockwall/api"

// mark is the byte that every image begins with.
const mark = 67

type writer struct{ bytes []byte }

// ones writes numbers of one byte each.
func (w *writer) ones(numbers ...int) {
	for _, n := range numbers {
		w.bytes = append(w.bytes, byte(n))
	}
}

// twos writes numbers of two bytes each, the greater first.
func (w *writer) twos(numbers ...int) {
	for _, n := range numbers {
		w.ones(n>>8, n&0xff)
	}
}

// image of a config that is right: each of its numbers has room in its bytes.
func image(c api.Config) string {
	var w writer
	w.ones(mark, c.Sets, c.Ways, c.Domains, c.Pad, c.Quantum)
	w.ones(len(c.Slots))
	for _, s := range c.Slots {
		w.ones(s.Domain)
		w.twos(s.Length)
	}
	w.ones(len(c.Owners))
	w.ones(c.Owners...)
	w.ones(len(c.Channels))
	for _, l := range c.Channels {
		w.ones(l.From, l.To, l.Size)
	}
	w.ones(len(c.Tasks))
	for _, t := range c.Tasks {
		w.ones(t.Domain)
		w.twos(t.Period, t.Budget, t.Deadline)
	}
	return string(w.bytes)
}

// misfit is what a reader gives up with: where the first byte is that can't stand there.
type misfit struct{ at int }

type reader struct {
	image string
	at    int
}

func (r *reader) one() int {
	if r.at == len(r.image) {
		panic(misfit{r.at})
	}
	r.at++
	return int(r.image[r.at-1])
}

func (r *reader) two() int {
	greater := r.one()
	return greater<<8 | r.one()
}

func (r *reader) begin() {
	if r.one() != mark {
		panic(misfit{r.at - 1})
	}
}

func (r *reader) count(most int) int {
	n := r.one()
	if n > most {
		panic(misfit{r.at - 1})
	}
	return n
}

func (r *reader) end() {
	if r.at < len(r.image) {
		panic(misfit{r.at})
	}
}

func list[T any](r *reader, most int, item func() T) []T {
	var l []T
	for range r.count(most) {
		l = append(l, item())
	}
	return l
}

func (r *reader) slot() api.Slot {
	domain := r.one()
	return api.Slot{Domain: domain, Length: r.two()}
}

func (r *reader) channel() api.Channel {
	from, to := r.one(), r.one()
	return api.Channel{From: from, To: to, Size: r.one()}
}

func (r *reader) task() api.Task {
	domain, period, budget := r.one(), r.two(), r.two()
	return api.Task{Domain: domain, Period: period, Budget: budget, Deadline: r.two()}
}

func (r *reader) config() api.Config {
	var c api.Config
	r.begin()
	c.Sets, c.Ways, c.Domains = r.one(), r.one(), r.one()
	c.Pad, c.Quantum = r.one(), r.one()
	c.Slots = list(r, api.MaxSlots, r.slot)
	c.Owners = list(r, api.MaxOwners, r.one)
	c.Channels = list(r, api.MaxChannels, r.channel)
	c.Tasks = list(r, api.MaxTasks, r.task)
	r.end()
	return c
}

// parse answers what the bytes say, right or not, or where they are no image.
func parse(s string) (c api.Config, at int, e api.Errno) {
	defer func() {
		if bad, ok := recover().(misfit); ok {
			at, e = bad.at, api.ErrForm
		}
	}()
	r := reader{image: s}
	return r.config(), 0, api.OK
}
