package parse

import (
	"math"
	"slices"
	"strings"

	"fenestra/api"
	"fenestra/lex"
)

// part is a part of the syntax of the document. The tests follow it token by token, so that they do not repeat the program's reading of fields.
type part interface {
	// missing reports whether the part may consist of no tokens.
	missing() bool
	// after returns what must follow a token with which the part begins, and the leaf that the token stands for; an empty leaf if the part does not begin with it.
	after(token lex.Token) (sequence, leaf)
}

// leaf is a single token: n, id, size! or dest for a Number, s for a Name, and others for themselves. One with a capital letter is the first word of a record.
type leaf string

type sequence []part

type choice []part

type repeated struct{ part }

func (l leaf) missing() bool { return false }

func (l leaf) after(token lex.Token) (sequence, leaf) {
	kind, text := lex.Word, strings.ToLower(string(l))
	switch l {
	case "n", "id", "size!", "dest":
		kind, text = lex.Number, token.Text
	case "s":
		kind, text = lex.Name, token.Text
	case "{", "}", ";", ",":
		kind = lex.Sign
	}
	if token.Kind != kind || token.Text != text {
		return nil, ""
	}
	return nil, l
}

func (p sequence) missing() bool {
	return !slices.ContainsFunc(p, func(x part) bool { return !x.missing() })
}

func (p sequence) after(token lex.Token) (sequence, leaf) {
	for i, x := range p {
		if rest, l := x.after(token); l != "" {
			return append(slices.Clone(rest), p[i+1:]...), l
		}
		if !x.missing() {
			break
		}
	}
	return nil, ""
}

func (p choice) missing() bool { return slices.ContainsFunc(p, part.missing) }

func (p choice) after(token lex.Token) (sequence, leaf) {
	for _, x := range p {
		if rest, l := x.after(token); l != "" {
			return rest, l
		}
	}
	return nil, ""
}

func (p repeated) missing() bool { return true }

func (p repeated) after(token lex.Token) (sequence, leaf) {
	return sequence{p.part, p}.after(token)
}

func leaves(s string) sequence {
	var p sequence
	for _, x := range strings.Fields(s) {
		p = append(p, leaf(x))
	}
	return p
}

func oneOf(s string) choice { return choice(leaves(s)) }

func optional(p part) choice { return choice{p, sequence{}} }

var recordsSyntax = sequence{repeated{choice{
	leaves("Partition id s { period n ; duration n ; }"),
	leaves("Window id { start n ; length n ; }"),
	sequence{leaves("Region id { base n ; size n ; rights"), oneOf("none r w x rw rx wx rwx"), leaf(";"), optional(leaves("shared ;")), leaf("}")},
	sequence{leaves("Port id s { partition id ;"), oneOf("input output"), leaf(";"), oneOf("sampling queuing"), leaves("; size size! ; }")},
	sequence{leaves("Channel id { source id ; to"), optional(sequence{leaf("dest"), repeated{leaves(", dest")}}), leaves("; }")},
}}}

var moduleSyntax = sequence{leaves("module { frame n ;"), recordsSyntax, leaf("}")}

// most is the greatest number that the place of a leaf permits.
func (l leaf) most() uint64 {
	switch l {
	case "id", "dest":
		return 65535
	case "size!":
		return 1<<32 - 1
	}
	return math.MaxUint64
}

// limits are those of the leaves that are counted.
var limits = map[leaf]int{"Partition": 64, "Window": 1024, "Region": 1024, "Port": 1024, "Channel": 512, "dest": 1024}

// result is what a text with a syntax has by the letter of the document.
func result(s string, syntax sequence) (api.Config, api.Fault) {
	tokens, fault := lex.Tokens(s)
	if fault != (api.Fault{}) {
		return api.Config{}, fault
	}
	var b builder
	counts := map[leaf]int{}
	for _, token := range tokens {
		if token.Kind == lex.End && syntax.missing() {
			break
		}
		var l leaf
		syntax, l = syntax.after(token)
		counts[l]++
		limit, limited := limits[l]
		fault := api.Fault{Part: token.Line, At: token.Col}
		switch {
		case l == "":
			fault.Code = api.ErrToken
		case token.Value > l.most():
			fault.Code = api.ErrNumber
		case limited && counts[l] > limit:
			fault.Code = api.ErrLimit
		}
		if fault.Code != api.OK {
			return api.Config{}, fault
		}
		b.add(l, token)
	}
	return b.Config, api.Fault{}
}

// builder makes a configuration of leaves and their tokens.
type builder struct {
	api.Config
	record, word leaf // the last first word of a record, and the last word
}

func last[T any](l []T) *T { return &l[len(l)-1] }

func (b *builder) add(l leaf, token lex.Token) {
	switch token.Kind {
	case lex.Word:
		b.addWord(l)
	case lex.Number:
		b.addNumber(token.Value)
	case lex.Name:
		b.addName(token.Text)
	}
}

func (b *builder) addWord(l leaf) {
	b.word = l
	if limits[l] != 0 {
		b.record = l
	}
	switch l {
	case "Partition":
		b.Partitions = append(b.Partitions, api.Partition{})
	case "Window":
		b.Windows = append(b.Windows, api.Window{})
	case "Region":
		b.Regions = append(b.Regions, api.Region{})
	case "Port":
		b.Ports = append(b.Ports, api.Port{})
	case "Channel":
		b.Channels = append(b.Channels, api.Channel{})
	case "none", "r", "w", "x", "rw", "rx", "wx", "rwx":
		last(b.Regions).Rights = rightsOf[string(l)]
	case "shared":
		last(b.Regions).Shared = true
	case "output":
		last(b.Ports).Output = true
	case "queuing":
		last(b.Ports).Queuing = true
	}
}

func (b *builder) addName(s string) {
	if b.record == "Partition" {
		last(b.Partitions).Name = s
	} else {
		last(b.Ports).Name = s
	}
}

func (b *builder) addNumber(v uint64) {
	switch b.record + " " + b.word {
	case " frame":
		b.Frame = v
	case "Partition Partition":
		last(b.Partitions).ID = uint16(v)
	case "Partition period":
		last(b.Partitions).Period = v
	case "Partition duration":
		last(b.Partitions).Duration = v
	case "Window Window":
		last(b.Windows).Partition = uint16(v)
	case "Window start":
		last(b.Windows).Start = v
	case "Window length":
		last(b.Windows).Length = v
	case "Region Region":
		last(b.Regions).Partition = uint16(v)
	case "Region base":
		last(b.Regions).Base = v
	case "Region size":
		last(b.Regions).Size = v
	case "Port Port":
		last(b.Ports).ID = uint16(v)
	case "Port partition":
		last(b.Ports).Partition = uint16(v)
	case "Port size":
		last(b.Ports).Size = uint32(v)
	case "Channel Channel":
		last(b.Channels).ID = uint16(v)
	case "Channel source":
		last(b.Channels).Source = uint16(v)
	case "Channel to":
		last(b.Channels).Dests = append(last(b.Channels).Dests, uint16(v))
	}
}

// rightsOf are those of the words by the letter of the document.
var rightsOf = map[string]uint8{"none": 0, "r": 1, "w": 2, "x": 4, "rw": 3, "rx": 5, "wx": 6, "rwx": 7}
