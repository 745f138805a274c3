package script

import (
	"iter"
	"strings"

	"corvee/api"
	"corvee/cluster"
	"corvee/fleet"
	"corvee/spec"
)

const (
	usualRoom = 10000
	maxDigits = 13 // of a number
)

// scene is what a line does on the stage.
type scene func(s *stage)

// story is what the lines so far have said.
type story struct {
	nodes  string // the lines of the fleet's text
	fleet  *fleet.Fleet
	room   int
	roomed bool // whether there was a room line
	work   []int
	scenes []scene
}

// lines is the lines of a text that count, with their numbers.
func lines(text string) iter.Seq2[int, string] {
	return func(yield func(int, string) bool) {
		rest := text
		for at := 1; rest != ""; at++ {
			var line string
			line, rest, _ = strings.Cut(rest, "\n")
			if line == "" || line[0] == '#' {
				continue
			}
			if !yield(at, line) {
				return
			}
		}
	}
}

// reader hands out the words of a line. It panics where the line is not as it is asked to be.
type reader struct {
	words []string
	fleet *fleet.Fleet
}

func (r *reader) must(ok bool) {
	if !ok {
		panic(api.ErrScript)
	}
}

func (r *reader) word() string {
	r.must(len(r.words) > 0)
	w := r.words[0]
	r.words = r.words[1:]
	return w
}

// rest is all words that are left, as they stood in the line.
func (r *reader) rest() string {
	s := strings.Join(r.words, " ")
	r.words = nil
	return s
}

func (r *reader) number() int {
	digits, below := strings.CutPrefix(r.word(), "-")
	r.must(digits != "" && len(digits) <= maxDigits && strings.Trim(digits, "0123456789") == "")
	r.must(digits[0] != '0' || digits == "0" && !below)
	n := 0
	for i := range len(digits) {
		n = 10*n + int(digits[i]-'0')
	}
	if below {
		return -n
	}
	return n
}

// node is the place of the node that is named.
func (r *reader) node() int {
	i := r.fleet.Index(r.word())
	r.must(i >= 0)
	return i
}

// take takes a line; false, if it may not be.
func (p *story) take(line string) (ok bool) {
	defer func() {
		if recover() != nil {
			ok = false
		}
	}()
	r := &reader{words: strings.Split(line, " "), fleet: p.fleet}
	switch first := r.word(); first {
	case "node", "room", "work":
		r.must(len(p.scenes) == 0)
		p.head(first, r)
	default:
		p.scenes = append(p.scenes, r.scene(first))
	}
	r.must(len(r.words) == 0)
	return true
}

// head takes a line of the head.
func (p *story) head(first string, r *reader) {
	switch first {
	case "node":
		line := r.rest()
		r.must(line != "" && line[0] != ' ' && line[0] != '#')
		p.nodes += line + "\n"
		f, err, _ := fleet.Read(p.nodes)
		r.must(err == api.OK)
		p.fleet = f
	case "room":
		r.must(!p.roomed)
		p.room, p.roomed = r.number(), true
	case "work":
		r.must(p.work == nil)
		p.work = append(p.work, r.number())
		for len(r.words) > 0 {
			p.work = append(p.work, r.number())
		}
	}
}

// scene is what a line behind the head does.
func (r *reader) scene(first string) scene {
	switch first {
	case "tick", "calm", "cut", "deliver", "drop", "double":
		return do(cluster.Act{Kind: plain(first), A: r.number()})
	case "spoil":
		a := cluster.Act{Kind: cluster.Spoil, A: r.number()}
		a.B = r.number()
		return do(a)
	case "boot", "crash", "step":
		return r.power(first)
	case "ask":
		e := api.Event{Client: r.number()}
		r.event(&e)
		return ask(e)
	case "show":
		return r.query()
	}
	r.must(false)
	return nil
}

// plain is the kind of the acts that have just a number.
func plain(word string) int {
	switch word {
	case "tick":
		return cluster.Tick
	case "calm":
		return cluster.Calm
	case "cut":
		return cluster.Cut
	case "deliver":
		return cluster.Deliver
	case "drop":
		return cluster.Drop
	}
	return cluster.Double
}

// power is what is done with a controller, a node or a client.
func (r *reader) power(verb string) scene {
	var kind int
	whom := r.word()
	switch verb + " " + whom {
	case "boot control":
		kind = cluster.BootControl
	case "crash control":
		kind = cluster.CrashControl
	case "step control":
		kind = cluster.StepControl
	case "boot node":
		kind = cluster.BootNode
	case "crash node":
		kind = cluster.CrashNode
	case "step node":
		kind = cluster.StepNode
	case "step client":
		kind = cluster.StepClient
	default:
		r.must(false)
	}
	if whom == "node" {
		return do(cluster.Act{Kind: kind, A: r.node()})
	}
	return do(cluster.Act{Kind: kind, A: r.number()})
}

// event takes what a client asks for.
func (r *reader) event(e *api.Event) {
	switch r.word() {
	case "submit":
		e.Kind, e.Specs = api.EvSubmit, r.specs()
	case "cancel":
		e.Kind, e.Job = api.EvCancel, r.number()
	case "hold":
		e.Kind, e.Job = api.EvHold, r.number()
	case "release":
		e.Kind, e.Job = api.EvRelease, r.number()
	case "drain":
		e.Kind, e.Node = api.EvDrain, r.node()
	case "fill":
		e.Kind, e.Node = api.EvFill, r.node()
	default:
		r.must(false)
	}
}

// specs takes the specs that are left.
func (r *reader) specs() []api.Spec {
	var specs []api.Spec
	var words []string
	add := func() {
		s, err, _ := spec.Parse(strings.Join(words, " "))
		r.must(err == api.OK && len(specs) < api.MaxBatch)
		specs, words = append(specs, s), nil
	}
	for len(r.words) > 0 {
		if w := r.word(); w == "+" {
			add()
		} else {
			words = append(words, w)
		}
	}
	add()
	return specs
}

// query is what is shown.
func (r *reader) query() scene {
	switch r.word() {
	case "now":
		return func(s *stage) { s.now() }
	case "packets":
		return func(s *stage) { s.packets() }
	case "claim":
		return func(s *stage) { s.claim() }
	case "jobs":
		return func(s *stage) { s.jobs() }
	case "heard":
		client := r.number()
		return func(s *stage) { s.heard(client) }
	case "run":
		node := r.node()
		return func(s *stage) { s.running(node) }
	}
	r.must(false)
	return nil
}
