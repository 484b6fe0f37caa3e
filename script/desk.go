package script

import (
	"strings"

	"gabion/api"
	"gabion/audit"
	"gabion/boot"
	"gabion/call"
	"gabion/flat"
	"gabion/pm"
)

// Desk is a device, and a system on it.
type Desk struct {
	device *pm.Device
	config boot.Config
	system *call.System
	kinds  map[int]call.Kind // those of the calls in progress, by their clients
}

// New: one without a device.
func New() *Desk {
	return &Desk{}
}

// words is those of a command behind its name, by what they are.
type words struct {
	numbers []int
	key     uint64
	bits    []bool
	call    []string
}

// need is what a command needs.
type need int

const (
	needNothing need = iota
	needDevice
	needSystem
)

// command is how a command is written, what it needs, and what it does.
type command struct {
	fields string // a letter for each word: n number, k key, b bits; a last c stands for a call's words
	need   need
	run    func(k *Desk, w words) string
}

func commands() map[string]command {
	return map[string]command{
		"make":  {"nnnnknnn", needNothing, (*Desk).makeDevice},
		"call":  {"nc", needSystem, (*Desk).call},
		"begin": {"nc", needSystem, (*Desk).begin},
		"step":  {"n", needSystem, (*Desk).step},
		"fuse":  {"n", needDevice, (*Desk).fuse},
		"break": {"n", needDevice, (*Desk).breakLine},
		"boot":  {"b", needDevice, (*Desk).boot},
		"list":  {"", needSystem, (*Desk).list},
		"audit": {"", needSystem, (*Desk).audit},
		"wear":  {"", needDevice, (*Desk).wear},
	}
}

// Do: the answer to a line.
func (k *Desk) Do(line string) string {
	if k == nil {
		return fail(api.ErrNil)
	}
	l := strings.Split(line, " ")
	c, known := commands()[l[0]]
	if !known {
		return fail(api.ErrCommand)
	}
	w, e := c.parse(l[1:])
	if e != api.OK {
		return fail(e)
	}
	if c.need >= needDevice && k.device == nil || c.need == needSystem && k.system == nil {
		return fail(api.ErrState)
	}
	return c.run(k, w)
}

// parse is the words of a command's line.
func (c command) parse(l []string) (words, api.Errno) {
	var w words
	many := strings.HasSuffix(c.fields, "c")
	if len(l) < len(c.fields) || len(l) > len(c.fields) && !many {
		return w, api.ErrFields
	}
	for i, letter := range c.fields {
		fits := true
		switch letter {
		case 'n':
			n := 0
			n, fits = number(l[i])
			w.numbers = append(w.numbers, n)
		case 'k':
			n := 0
			n, fits = number(l[i])
			fits = fits && n >= 0
			w.key = uint64(n)
		case 'b':
			w.bits, fits = bits(l[i])
		case 'c':
			w.call = l[i:]
		}
		if !fits {
			return w, api.ErrNumber
		}
	}
	return w, api.OK
}

// bits is a word's digits 1 and 0.
func bits(word string) ([]bool, bool) {
	if word == nothing {
		return nil, true
	}
	if word == "" || strings.Trim(word, "01") != "" {
		return nil, false
	}
	var l []bool
	for _, digit := range word {
		l = append(l, digit == '1')
	}
	return l, true
}

func (k *Desk) makeDevice(w words) string {
	n := w.numbers
	c := boot.Config{
		Flat: flat.Config{Regions: n[0], Lines: n[1], Spares: n[2], Psi: n[3], Key: w.key},
		Heat: n[4], Half: n[5], Clients: n[6],
	}
	if e := c.Check(c.Flat.Size()); e != api.OK {
		return fail(e)
	}
	d, e := pm.New(c.Flat.Size())
	if e != api.OK {
		return fail(e)
	}
	if e := boot.Make(d, c); e != api.OK {
		return fail(e)
	}
	y, e := boot.Start(d, c)
	if e != api.OK {
		return fail(e)
	}
	k.device, k.config, k.system, k.kinds = d, c, y, map[int]call.Kind{}
	return okWith(c.Blocks())
}

func (k *Desk) call(w words) string {
	c, e := Parse(w.call)
	if e != api.OK {
		return fail(e)
	}
	r, e := k.system.Do(w.numbers[0], c)
	if e != api.OK {
		return fail(e)
	}
	return Result(c.Kind, r)
}

func (k *Desk) begin(w words) string {
	c, e := Parse(w.call)
	if e != api.OK {
		return fail(e)
	}
	if e := k.system.Begin(w.numbers[0], c); e != api.OK {
		return fail(e)
	}
	k.kinds[w.numbers[0]] = c.Kind
	return fine
}

func (k *Desk) step(w words) string {
	client := w.numbers[0]
	r, over, e := k.system.Step(client)
	if e != api.OK {
		return fail(e)
	}
	if !over {
		return "-"
	}
	kind := k.kinds[client]
	delete(k.kinds, client)
	return Result(kind, r)
}

func (k *Desk) fuse(w words) string {
	k.device.Fuse(w.numbers[0])
	return fine
}

func (k *Desk) breakLine(w words) string {
	k.device.Break(w.numbers[0])
	return fine
}

func (k *Desk) boot(w words) string {
	k.device.Boot(w.bits)
	k.system = nil
	clear(k.kinds)
	y, e := boot.Start(k.device, k.config)
	if e != api.OK {
		return fail(e)
	}
	k.system = y
	return fine
}

func (k *Desk) list(words) string {
	l := audit.List(k.system.Store().Tree())
	return strings.Join(append([]string{fine}, l...), "|")
}

func (k *Desk) audit(words) string {
	r, e := audit.Check(k.system.Store())
	if e != api.OK {
		return fail(e)
	}
	return okWith(r.Files, r.Dirs, r.Links, r.Names, r.Deep, r.Lost, r.Used, r.Free)
}

func (k *Desk) wear(words) string {
	return okWith(audit.Wear(k.device))
}

// Run: the answers to a script's lines.
func Run(s string) (string, api.Errno) {
	if len(s) > api.MaxScript {
		return "", api.ErrLong
	}
	k := New()
	var b strings.Builder
	for line := range strings.SplitSeq(s, "\n") {
		if line == "" {
			continue
		}
		b.WriteString(k.Do(line) + "\n")
		if b.Len() > api.MaxAnswer {
			return "", api.ErrFull
		}
	}
	return b.String(), api.OK
}
