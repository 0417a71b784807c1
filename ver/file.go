package ver

import (
	"iter"
	"strings"

	"demotic/api"
)

// file is what a go.mod said so far.
type file struct {
	mod               Mod
	modules, versions int
}

// lines tells the words of each line, without its note.
func lines(s string) iter.Seq[[]string] {
	return func(yield func([]string) bool) {
		for more := true; more; {
			var line string
			line, s, more = strings.Cut(s, "\n")
			said, _, _ := strings.Cut(line, "//")
			if !yield(strings.FieldsFunc(said, blank)) {
				return
			}
		}
	}
}

// line takes a line that is not empty; false, if it is none.
func (f *file) line(words []string) bool {
	rule := f.rule(words[0])
	return rule != nil && len(words) == 2 && rule(words[1])
}

// rule tells what is done with what a word says, and nil for one that says nothing here.
func (f *file) rule(word string) func(said string) bool {
	switch word {
	case "module":
		return func(said string) bool {
			f.modules++
			f.mod.Path = said
			return Path(said)
		}
	case "go":
		return func(said string) bool {
			minor, e := Minor(said)
			f.versions++
			f.mod.Minor = minor
			return e == api.OK
		}
	case "toolchain":
		return func(string) bool { return true }
	}
	return nil
}

// all: does it hold for each sign?
func all(s string, holds func(rune) bool) bool {
	for _, r := range s {
		if !holds(r) {
			return false
		}
	}
	return true
}

func blank(r rune) bool { return r == ' ' || r == '\t' || r == '\r' }

func figure(r rune) bool { return '0' <= r && r <= '9' }

// inName: may it stand in a path's name?
func inName(r rune) bool {
	return figure(r) || 'a' <= r && r <= 'z' || 'A' <= r && r <= 'Z' || r == '_' || r == '-' || r == '.'
}
