package tag

import (
	"strings"

	"demotic/api"
)

// reader is what was not read yet, and in how many constraints it stands.
type reader struct {
	rest  string
	depth int
}

// read tells the constraint, or the error that was thrown.
func read(s string) (x Expr, e api.Errno) {
	defer func() {
		if thrown := recover(); thrown != nil {
			x, e = Expr{}, api.ErrTag // whatever else is thrown counts as one
			if told, ok := thrown.(api.Errno); ok {
				e = told
			}
		}
	}()
	r := reader{rest: s}
	x = r.constraint()
	need(r.skip() == "")
	need(Right(x)) // rows within one another are not counted while they are read
	return x, api.OK
}

// constraint reads terms with || between.
func (r *reader) constraint() Expr {
	return r.row("||", func() Expr {
		return r.row("&&", r.factor)
	})
}

// row reads parts with a sign between; one that stands alone is itself.
func (r *reader) row(op string, part func() Expr) Expr {
	kids := []Expr{part()}
	for r.takes(op) {
		kids = append(kids, part())
	}
	if len(kids) == 1 {
		return kids[0]
	}
	return Expr{Op: op, Kids: kids}
}

// factor reads one; what is in brackets counts as one more within the others, though it leaves no trace.
func (r *reader) factor() (x Expr) {
	r.depth++
	need(r.depth <= maxDepth)
	switch {
	case r.takes("!"):
		x = Expr{Op: "!", Kids: []Expr{r.factor()}}
	case r.takes("("):
		x = r.constraint()
		need(r.takes(")"))
	default:
		x = r.tag()
	}
	r.depth--
	return x
}

// tag reads a tag.
func (r *reader) tag() Expr {
	size := tagSize(r.skip())
	need(size > 0)
	x := Expr{Tag: r.rest[:size]}
	r.rest = r.rest[size:]
	return x
}

// takes takes a sign, if it comes next.
func (r *reader) takes(sign string) bool {
	rest, ok := strings.CutPrefix(r.skip(), sign)
	r.rest = rest
	return ok
}

// skip passes blanks over, and tells what comes then.
func (r *reader) skip() string {
	r.rest = strings.TrimLeft(r.rest, blanks)
	return r.rest
}

// tagSize tells how many bytes at the beginning may be a tag.
func tagSize(s string) int {
	for i, sign := range s {
		if !inTag(sign) {
			return i
		}
	}
	return len(s)
}

// inTag: may it stand in a tag?
func inTag(r rune) bool {
	return 'a' <= r && r <= 'z' || 'A' <= r && r <= 'Z' || '0' <= r && r <= '9' || r == '_' || r == '.'
}

// need throws the error where what holds of each constraint does not hold.
func need(holds bool) {
	if !holds {
		panic(api.ErrTag)
	}
}
