package paths

import "qloom/api"

// mostHalf is how far Half may be from 0.
const mostHalf = 1000

// checkStep is the first fault of a step's numbers.
func checkStep(s api.Sum, p api.Step) api.Fault {
	switch {
	case p.Rule < api.RuleDrop || p.Rule > api.RuleShift:
		return api.Fault{Code: api.ErrKind}
	case p.Y < s.In || p.Y >= s.In+s.Vars:
		return api.Fault{Code: api.ErrVar}
	case !takesZ(s, p):
		return api.Fault{Code: api.ErrVar, At: 1}
	}
	return api.Fault{}
}

// takesZ: is the step's Z what its rule asks for?
func takesZ(s api.Sum, p api.Step) bool {
	switch p.Rule {
	case api.RulePair:
		return p.Z >= s.In && p.Z < s.In+s.Vars && p.Z != p.Y
	case api.RuleShift:
		return p.Z >= 0 && p.Z < s.In+s.Vars && p.Z != p.Y
	}
	return p.Z == 0
}

// after is the path sum behind a step whose numbers have no fault; or the code of
// what stands against it.
func (s *pathSum) after(p api.Step) (*pathSum, int) {
	s = s.clone()
	code := 0
	if p.Rule == api.RuleShift {
		code = s.shift(p.Y, p.Z)
	} else {
		code = s.sumOver(p)
	}
	if code == 0 && !s.fits() {
		code = api.ErrMany
	}
	if code != 0 {
		return nil, code
	}
	return s, 0
}

// shift puts y + z in y's place.
func (s *pathSum) shift(y, z int) int {
	form := sum[parity]{single(y): 1, single(z): 1}
	if !s.replace(y, form) {
		return api.ErrMany
	}
	return 0
}

// sumOver does one of the rules by which Y goes: the ways that it parts are summed up.
func (s *pathSum) sumOver(p api.Step) int {
	form, ok := besides(p, part(s.phase, p.Y))
	gone := lost(p.Rule)
	switch {
	case !ok || !s.isInside(p.Y):
		return api.ErrRule
	case len(form) > api.MaxMonos:
		return api.ErrMany
	case s.half-gone < -mostHalf:
		return api.ErrRange
	}
	s.half -= gone
	takeOut(s.phase, p.Y)
	switch p.Rule {
	case api.RulePair:
		ok = s.replace(p.Z, form)
		s.forget(max(p.Y, p.Z))
		s.forget(min(p.Y, p.Z))
	case api.RuleQuart:
		add(s.phase, one, 2)
		ok = s.turn(only[sixteenths](one, -4), form)
		s.forget(p.Y)
	case api.RuleDrop:
		s.forget(p.Y)
	}
	if !ok {
		return api.ErrMany
	}
	return 0
}

// lost is by how much a rule by which Y goes makes Half less.
func lost(rule int) int {
	if rule == api.RuleQuart {
		return 1
	}
	return 2
}

// besides is what the document calls Q: the form that is around Y beside what the
// rule asks for; and whether that is there. It may change what it is handed.
func besides(p api.Step, around sum[sixteenths]) (sum[parity], bool) {
	if p.Rule == api.RuleQuart {
		add(around, one, -4)
	}
	form, ok := eighths(around)
	switch p.Rule {
	case api.RuleDrop:
		ok = len(around) == 0
	case api.RulePair:
		ok = ok && isAlone(form, p.Z)
		delete(form, single(p.Z))
	}
	return form, ok
}

// isAlone: does variable v stand alone in a form, and in no other product there?
func isAlone(form sum[parity], v int) bool {
	return form[single(v)] == 1 && count(form, v) == 1
}
