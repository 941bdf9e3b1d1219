package session

import (
	"slices"
	"strconv"

	"bailiff/api"
	"bailiff/bind"
	"bailiff/bisim"
	"bailiff/court"
	"bailiff/decomp"
	"bailiff/game"
	"bailiff/judge"
	"bailiff/lts"
	"bailiff/measure"
	"bailiff/pages"
	"bailiff/plays"
	"bailiff/syntax"
	"bailiff/writ"
)

// maxScript is how many numbers of a script a line may have.
const maxScript = 64

// request is what a line asks of a command: what stands behind its name, as a text and as numbers.
type request struct {
	text    string
	numbers []int
}

// command is one of a session's: which words it has, what must be there ahead of it, and what it does.
type command struct {
	reads func(words []string) ([]int, bool)
	ready func(s *Session) bool
	run   func(s *Session, r request) string
}

// pick is the command of a name.
func pick(name string) (command, bool) {
	switch name {
	case "system":
		return command{asText, (*Session).always, (*Session).enterSystem}, true
	case "formula":
		return command{asText, (*Session).always, (*Session).enterFormula}, true
	case "holds":
		return command{asNumbers(1, 1), (*Session).always, (*Session).holds}, true
	case "all":
		return command{asNumbers(0, 0), (*Session).always, (*Session).all}, true
	case "classes":
		return command{asNumbers(0, 0), (*Session).always, (*Session).classes}, true
	case "board":
		return command{asNumbers(1, 1), (*Session).always, (*Session).board}, true
	case "game":
		return command{asText, (*Session).always, (*Session).enterGame}, true
	case "page":
		return command{asNumbers(0, 0), (*Session).hasGame, (*Session).page}, true
	case "dual":
		return command{asNumbers(0, 0), (*Session).hasGame, (*Session).dual}, true
	case "solve":
		return command{asNumbers(0, 0), (*Session).hasGame, (*Session).solve}, true
	case "lift":
		return command{asNumbers(0, 0), (*Session).hasGame, (*Session).lift}, true
	case "claim":
		return command{asText, (*Session).hasGame, (*Session).enterClaim}, true
	case "judge":
		return command{asNumbers(0, 0), (*Session).hasClaim, (*Session).judge}, true
	case "play":
		return command{asNumbers(2, 2+maxScript), (*Session).hasClaim, (*Session).play}, true
	}
	return command{}, false
}

// asText lets any words be: they are a text.
func asText(words []string) ([]int, bool) { return nil, true }

// asNumbers reads words that must be numbers, from least to most of them.
func asNumbers(least, most int) func(words []string) ([]int, bool) {
	return func(words []string) ([]int, bool) {
		if len(words) < least || len(words) > most {
			return nil, false
		}
		var numbers []int
		for _, word := range words {
			n, is := number(word)
			if !is {
				return nil, false
			}
			numbers = append(numbers, n)
		}
		return numbers, true
	}
}

// number reads digits, at most four, without noughts ahead.
func number(word string) (int, bool) {
	if len(word) < 1 || len(word) > 4 || len(word) > 1 && word[0] == '0' {
		return 0, false
	}
	n := 0
	for i := range len(word) {
		if word[i] < '0' || word[i] > '9' {
			return 0, false
		}
		n = n*10 + int(word[i]-'0')
	}
	return n, true
}

func (s *Session) always() bool   { return true }
func (s *Session) hasGame() bool  { return s.game != nil }
func (s *Session) hasClaim() bool { return s.hasGame() && s.claim != nil }

// open is the case of both texts, which were looked at when they were entered.
func (s *Session) open() *court.Case {
	c, _ := court.Open(s.system, s.formula)
	return c
}

func (s *Session) enterSystem(r request) string {
	if _, err := lts.Parse(r.text); err != nil {
		return refusedBy(err)
	}
	s.system = r.text
	return "ok"
}

func (s *Session) enterFormula(r request) string {
	f, err := syntax.Parse(r.text)
	if err != nil {
		return refusedBy(err)
	}
	if at, wrong := bind.Check(f); wrong != api.OK {
		return refused(f[at].At, wrong)
	}
	s.formula = r.text
	return "ok " + syntax.Print(f)
}

func (s *Session) holds(r request) string {
	c, answer := s.open(), ""
	for _, way := range []func(*court.Case, int) (bool, api.Errno){(*court.Case).Direct, (*court.Case).Solved, (*court.Case).Lifted} {
		holds, wrong := way(c, r.numbers[0])
		switch {
		case wrong == api.ErrLimit:
			answer += " limit"
		case wrong != api.OK:
			return failed(wrong)
		case holds:
			answer += " yes"
		default:
			answer += " no"
		}
	}
	return answer[1:]
}

func (s *Session) all(request) string { return "states" + listed(s.open().All()) }

func (s *Session) classes(request) string {
	system, _ := lts.Parse(s.system)
	return "classes" + listed(bisim.Classes(system))
}

func (s *Session) board(r request) string {
	board, claim, wrong := s.open().Evidence(r.numbers[0])
	if wrong != api.OK {
		return failed(wrong)
	}
	s.game, s.claim = &board.Game, &claim
	winner := 1
	if slices.Contains(claim.Regions[0], 0) {
		winner = 0
	}
	return "positions " + strconv.Itoa(len(board.Keys)) + " won by " + strconv.Itoa(winner)
}

func (s *Session) enterGame(r request) string {
	g, err := pages.Parse(r.text)
	if err != nil {
		return refusedBy(err)
	}
	s.game, s.claim = &g, nil
	return "ok " + strconv.Itoa(len(g.Owner))
}

func (s *Session) page(request) string { return oneLine(pages.Print(*s.game)) }

func (s *Session) dual(request) string {
	dual := game.Dual(*s.game)
	if len(dual.Owner) == 0 {
		return failed(api.ErrPriority)
	}
	s.game, s.claim = &dual, nil
	return "ok"
}

func (s *Session) solve(request) string {
	claim, _ := decomp.Solve(*s.game)
	s.claim = &claim
	return "region 0" + listed(claim.Regions[0]) + " region 1" + listed(claim.Regions[1])
}

func (s *Session) lift(request) string {
	region, _ := measure.Even(*s.game, measure.Solve(*s.game))
	return "even" + listed(region)
}

func (s *Session) enterClaim(r request) string {
	n, claim, err := writ.Parse(r.text)
	switch {
	case err != nil:
		return refusedBy(err)
	case n != len(s.game.Owner):
		return failed(api.ErrMany)
	}
	s.claim = &claim
	return "ok"
}

func (s *Session) judge(request) string {
	v := judge.Judge(*s.game, *s.claim)
	if v.Err == api.OK {
		return "right"
	}
	return "wrong" + listed([]int{int(v.Err), v.Player, v.At})
}

func (s *Session) play(r request) string {
	at, player := r.numbers[0], r.numbers[1]
	var moves []int
	if player < len(s.claim.Moves) {
		moves = s.claim.Moves[player]
	}
	play, wrong := plays.Run(*s.game, at, player, moves, r.numbers[2:])
	if wrong != api.OK {
		return failed(wrong)
	}
	return "winner " + strconv.Itoa(play.Winner)
}
