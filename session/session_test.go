package session_test

import (
	"strconv"
	"strings"
	"testing"

	"bailiff/api"
	"bailiff/bisim"
	"bailiff/decomp"
	"bailiff/lts"
	"bailiff/pages"
	"bailiff/samples"
	"bailiff/session"
	"bailiff/syntax"
	"bailiff/writ"
)

// talk says lines to a session, and looks at its answers.
func talk(t *testing.T, s *session.Session, lines ...string) {
	t.Helper()
	for i := 0; i < len(lines); i += 2 {
		if got := s.Do(lines[i]); got != lines[i+1] {
			t.Errorf("X2: %.80q: %q, want %q", lines[i], got, lines[i+1])
		}
	}
}

const example = "system states 3; edge 0 a 1; edge 1 a 2; edge 2 a 2; edge 0 b 0; mark p 2"

func TestX2Examples(t *testing.T) {
	s := session.New()
	talk(t, s,
		example, "ok", "formula mu X.p|[-]X", "ok mu X. p | [-]X", "holds 1", "yes yes yes", "holds 3", "error 1", "all", "states 1 2", "classes", "classes 0 1 2")
	if got := s.Do("board 0"); !strings.HasPrefix(got, "positions ") || !strings.HasSuffix(got, " won by 1") {
		t.Errorf("X2: board 0: %q", got)
	}
	talk(t, s,
		"judge", "right", "formula mu X. ~X", "byte 7 error 12", "game game 2; 0 0 0 : 0 1; 1 1 1 : 0 1", "ok 2", "judge", "error 22", "solve", "region 0 0 region 1 1", "play 0 0 1 1", "winner 0",
		"lift", "even 0", "claim claim 2; region 0 0 1; region 1; moves 0 0:0; moves 1", "ok", "judge", "wrong 21 0 1", "Solve", "error 23")
}

func TestX1New(t *testing.T) {
	talk(t, session.New(), "all", "states 0", "classes", "classes 0", "holds 0", "yes yes yes", "holds 1", "error 1", "page", "error 22", "judge", "error 22", "lift", "error 22", "solve", "error 22", "dual", "error 22",
		"claim claim 1", "error 22", "play 0 0", "error 22", "board 0", "positions 1 won by 0", "page", "game 1; 0 0 0 : 0", "judge", "right")
}

func TestX2Words(t *testing.T) {
	talk(t, session.New(),
		"", "error 23", "   ", "error 23", "al", "error 23", "alll", "error 23", "All", "error 23", "all\t", "error 23", "\tall", "error 23", "all\n", "error 23", "page;", "error 23", "\xff", "error 23",
		"  all", "states 0", "all   ", "states 0", "all x", "error 1", "all 0", "error 1", "all \t", "error 1", "classes 1", "error 1",
		"holds", "error 1", "holds x", "error 1", "holds 0 0", "error 1", "holds 00", "error 1", "holds 01", "error 1", "holds -1", "error 1", "holds +0", "error 1", "holds 12345", "error 1", "holds 9999", "error 1", "holds 0x", "error 1", "holds \xff", "error 1", "holds ٣", "error 1", "holds   0  ", "yes yes yes",
		"board", "error 1", "board 0 0", "error 1", "board x", "error 1", "board 1", "error 1", "page 0", "error 1", "solve 0", "error 1", "lift 0", "error 1", "dual 0", "error 1", "judge 0", "error 1", "play", "error 1", "play 0", "error 1", "play 0 x", "error 1",
		"play 0 0"+strings.Repeat(" 1", 65), "error 1", "play 0 0"+strings.Repeat(" 1", 64), "error 22", "holds 18446744073709551616", "error 1")
}

func TestX2System(t *testing.T) {
	s := session.New()
	talk(t, s, example, "ok", "formula <->p", "ok <->p",
		"system", "byte 0 error 6", "system ", "byte 0 error 6", "system states 0", "byte 7 error 8", "system  states 0", "byte 8 error 8", "system states 2;edge 0 a 2", "byte 18 error 8", "system states 1 # _;_", "byte 13 error 3", "system  ", "byte 1 error 6",
		"system "+strings.Repeat(" ", api.MaxText+1), "byte 262144 error 2", "all", "states 1 2", "classes", "classes 0 1 2",
		"system ;; states 2 # r;mark p 1;edge 0 a 1;", "ok", "all", "states 0", "classes", "classes 0 1", "system states 1\nmark p", "ok", "all", "states", "holds 0", "no no no")
}

func TestX2Formula(t *testing.T) {
	s := session.New()
	talk(t, s, example, "ok", "formula", "byte 0 error 6", "formula p &", "byte 3 error 6", "formula  p  &", "byte 5 error 6", "formula p q", "byte 2 error 7", "formula X", "byte 0 error 11", "formula p | <a>Y", "byte 7 error 11", "formula _", "byte 0 error 3",
		"formula mu X. nu X. X", "byte 0 error 9", "formula p & mu A. mu B. nu C. mu D. mu E. p", "byte 4 error 13", "formula "+strings.Repeat("~", 61), "byte 60 error 10", "all", "states 0 1 2",
		"formula p|(q|r)", "ok p | (q | r)", "formula <a>;p # r;& q", "ok <a>p & q", "formula ~p", "ok ~p", "all", "states 0 1", "holds 2", "no no no", "holds 0", "yes yes yes", "formula nu X. <b>X", "ok nu X. <b>X", "all", "states 0")
}

func TestX2Limit(t *testing.T) {
	system := "system states 14"
	for from := range 14 {
		for to := range 14 {
			system += ";edge " + strconv.Itoa(from) + " a " + strconv.Itoa(to)
		}
	}
	const formula = "<a><a><a><a><a><a><a><a><a><a><a><a><a><a><a>p"
	s := session.New()
	talk(t, s, system, "ok", "formula "+formula, "ok "+formula, "holds 3", "no limit limit", "board 3", "error 18", "page", "error 22", "formula ~"+formula, "ok ~"+formula, "holds 3", "yes limit limit", "all", "states 0 1 2 3 4 5 6 7 8 9 10 11 12 13")
}

func TestX2Board(t *testing.T) {
	s := session.New()
	talk(t, s, example, "ok", "formula <a>p", "ok <a>p", "board 0", "positions 2 won by 1", "page", "game 2; 0 0 0 : 1; 1 0 1 : 1", "judge", "right", "solve", "region 0 region 1 0 1", "board 1", "positions 2 won by 0", "page", "game 2; 0 0 0 : 1; 1 0 0 : 1", "play 0 0", "winner 0", "play 0 1 5", "winner 0",
		"board 3", "error 1", "page", "game 2; 0 0 0 : 1; 1 0 0 : 1", "judge", "right", "formula ff", "ok ff", "page", "game 2; 0 0 0 : 1; 1 0 0 : 1", "system states 1", "ok", "judge", "right")
}

func TestX2Game(t *testing.T) {
	s := session.New()
	talk(t, s, "game game 1;0 1 0:0", "ok 1", "page", "game 1; 0 1 0 : 0", "solve", "region 0 0 region 1", "judge", "right",
		"game", "byte 0 error 6", "game game 0", "byte 5 error 10", "game game 1; 0 2 0 : 0", "byte 10 error 14", "game game 1;0 0 0:;", "byte 13 error 17", "game  game 1;1", "byte 8 error 8", "game game 1;0 0 0:0;x", "byte 15 error 7", "page", "game 1; 0 1 0 : 0", "judge", "right",
		"dual", "ok", "page", "game 1; 0 0 1 : 0", "judge", "error 22", "play 0 0", "error 22", "lift", "even", "solve", "region 0 region 1 0", "dual", "ok", "page", "game 1; 0 1 2 : 0",
		"game game 2; 0 0 0 : 0; 1 1 7 : 1", "ok 2", "judge", "error 22", "solve", "region 0 0 region 1 1", "dual", "error 15", "judge", "right", "lift", "even 0", "page", "game 2; 0 0 0 : 0; 1 1 7 : 1",
		"game game 1;0 1 7:0", "ok 1", "judge", "error 22", "dual", "ok", "page", "game 1; 0 0 6 : 0")
}

func TestX2Claim(t *testing.T) {
	s := session.New()
	const right, wrong = "claim claim 2; region 0 0; region 1 1; moves 0 0:0; moves 1 1:1", "claim claim 2; region 0 0; region 1 1; moves 0 0:1; moves 1 1:1"
	talk(t, s, right, "error 22", "claim", "error 22", "game game 2; 0 0 0 : 0 1; 1 1 1 : 0 1", "ok 2", "judge", "error 22", "play 0 0", "error 22", right, "ok", "judge", "right", wrong, "ok", "judge", "wrong 20 0 0",
		"claim", "byte 0 error 6", "claim claim 0", "byte 6 error 8", "claim claim 2;region 1", "byte 15 error 7", "claim claim 1; region 0; region 1; moves 0; moves 1", "error 10", "claim claim 3; region 0; region 1; moves 0; moves 1", "error 10", "judge", "wrong 20 0 0",
		"claim claim 2; region 0; region 1; moves 0; moves 1", "ok", "judge", "wrong 19 0 0", "claim claim 2; region 0 0; region 1 0 1; moves 0; moves 1", "ok", "judge", "wrong 19 0 0", "claim claim 2; region 0 0; region 1 1; moves 0 0:0; moves 1", "ok", "judge", "wrong 16 1 1")
}

func TestX2Play(t *testing.T) {
	s := session.New()
	talk(t, s, "game game 2; 0 0 0 : 0 1; 1 1 1 : 0 1", "ok 2", "solve", "region 0 0 region 1 1", "play 0 0", "winner 0", "play 1 1", "winner 1", "play 1 0 1 1 0", "winner 0", "play 1 0 1", "winner 1", "play 1 0 "+strings.Repeat("1 ", 63)+"2", "winner 0", "play 0 1 9999", "winner 1",
		"play 2 0", "error 1", "play 0 2", "error 1", "play 9999 9999", "error 1", "claim claim 2; region 0 0; region 1 1; moves 0; moves 1 1:1", "ok", "play 0 0", "error 16", "play 0 1", "winner 0", "play 1 0 0 1", "error 16", "play 1 0 1", "winner 1")
}

// What a session answers is what the layers answer.
func TestFollowsLayers(t *testing.T) {
	line := func(text string) string {
		return strings.ReplaceAll(strings.TrimSuffix(text, "\n"), "\n", "; ")
	}
	listed := func(l []int) string {
		text := ""
		for _, n := range l {
			text += " " + strconv.Itoa(n)
		}
		return text
	}
	for i := range 100 {
		source := samples.New(i)
		system, f := source.System(6), source.Formula(20)
		g := source.Game(1+source.Below(20), 1+source.Below(7), 4)
		s := session.New()
		talk(t, s, "system "+line(lts.Print(system)), "ok", "formula "+syntax.Print(f), "ok "+syntax.Print(f), "classes", "classes"+listed(bisim.Classes(system)), "game "+line(pages.Print(g)), "ok "+strconv.Itoa(len(g.Owner)), "page", line(pages.Print(g)))
		c, _ := decomp.Solve(g)
		talk(t, s, "claim "+line(writ.Print(len(g.Owner), c)), "ok", "judge", "right", "lift", "even"+listed(c.Regions[0]), "solve", "region 0"+listed(c.Regions[0])+" region 1"+listed(c.Regions[1]), "judge", "right")
		for at := range g.Owner {
			for player := range 2 {
				for _, of := range c.Regions[player] {
					if of == at {
						talk(t, s, "play "+strconv.Itoa(at)+" "+strconv.Itoa(player)+" "+strconv.Itoa(source.Below(9999))+" 7", "winner "+strconv.Itoa(player))
					}
				}
			}
		}
		all := s.Do("all") + " "
		for state := range system.States {
			want := "no"
			if strings.Contains(all, " "+strconv.Itoa(state)+" ") {
				want = "yes"
			}
			if got := s.Do("holds " + strconv.Itoa(state)); got != want+" "+want+" "+want && got != want+" limit limit" {
				t.Errorf("X2: holds %d: %q, and %q", state, got, all)
			}
		}
	}
}

func TestX1Apart(t *testing.T) {
	one, other := session.New(), session.New()
	talk(t, one, "formula ff", "ok ff", "board 0", "positions 1 won by 1")
	talk(t, other, "all", "states 0", "page", "error 22")
}
