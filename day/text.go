package day

import (
	"shotline/api"
	"shotline/lines"
)

// textDigits is the most digits of a number in a text.
const textDigits = 8

// The first words of the lines of a day.
const (
	rulesWord = "rules"
	slotWord  = "slot"
	diverWord = "diver"
	wishWord  = "wish"
)

// lineKind is a kind of lines: its place among the kinds, and what adds the words behind the first one to a day, and tells
// whether they have the form of the kind.
type lineKind struct {
	place int
	read  func(t *api.DayTask, words []string) bool
}

// lineKinds returns the kinds of lines by their first words.
func lineKinds() map[string]lineKind {
	return map[string]lineKind{
		rulesWord: {0, readRules},
		slotWord:  {1, readSlot},
		diverWord: {2, readDiver},
		wishWord:  {3, readWish},
	}
}

// Print returns the text of a day.
func Print(t api.DayTask) (string, api.Errno) {
	if _, e := CheckTask(t); e != api.OK {
		return "", e
	}
	text := lines.Written(rulesWord, placesOfRules(&t.Rules)...) + "\n"
	for _, s := range t.Slots {
		text += lines.Written(slotWord, placesOfSlot(&s)...) + "\n"
	}
	for _, d := range t.Divers {
		text += lines.Written(diverWord, placesOfDiver(&d)...) + "\n"
	}
	for _, w := range t.Wishes {
		text += lines.Join(lines.Written(wishWord, placesOfWish(&w)...), w.Slots...) + "\n"
	}
	return text, api.OK
}

// Parse returns the day with a text; beside ErrSyntax the number of the line that is wrong.
func Parse(s string) (api.DayTask, int, api.Errno) {
	if len(s) > api.MaxText {
		return api.DayTask{}, 0, api.ErrLarge
	}
	t, number := read(s)
	if number != 0 {
		return api.DayTask{}, number, api.ErrSyntax
	}
	if _, e := CheckTask(t); e != api.OK {
		return api.DayTask{}, 0, e
	}
	return t, 0, api.OK
}

// read returns what a text says, whether or not it is a right day, or else the number of the first line that is wrong.
func read(s string) (api.DayTask, int) {
	var t api.DayTask
	if s == "" {
		return t, 1
	}
	place := 0
	for number, words := range lines.Of(s) {
		if len(words) == 0 {
			return t, number
		}
		kind, ok := lineKinds()[words[0]]
		isRules := words[0] == rulesWord
		if !ok || isRules != (number == 1) || kind.place < place || !kind.read(&t, words[1:]) {
			return t, number
		}
		place = kind.place
	}
	return t, 0
}

func readRules(t *api.DayTask, words []string) bool {
	return lines.Read(words, textDigits, placesOfRules(&t.Rules)...)
}

func readSlot(t *api.DayTask, words []string) bool {
	var s api.DaySlot
	ok := lines.Read(words, textDigits, placesOfSlot(&s)...)
	t.Slots = append(t.Slots, s)
	return ok
}

func readDiver(t *api.DayTask, words []string) bool {
	var d api.DayDiver
	ok := lines.Read(words, textDigits, placesOfDiver(&d)...)
	t.Divers = append(t.Divers, d)
	return ok
}

func readWish(t *api.DayTask, words []string) bool {
	var w api.DayWish
	places := placesOfWish(&w)
	if len(words) < len(places) || !lines.Read(words[:len(places)], textDigits, places...) {
		return false
	}
	slots, ok := lines.Numbers(words[len(places):], textDigits)
	w.Slots = slots
	t.Wishes = append(t.Wishes, w)
	return ok
}

// placesOfRules, placesOfSlot, placesOfDiver and placesOfWish return where is kept what stands behind the first word of a
// line, but for the slots of a wish.
func placesOfRules(r *api.DayRules) []any {
	return []any{&r.Guide, &r.Novice, &r.Ratio, &r.Gap, &r.Gas}
}

func placesOfSlot(s *api.DaySlot) []any {
	return []any{&s.Name, &s.From, &s.To, &s.Seats, &s.Level}
}

func placesOfDiver(d *api.DayDiver) []any {
	return []any{&d.Name, &d.Level, &d.Buddy}
}

func placesOfWish(w *api.DayWish) []any {
	return []any{&w.Diver, &w.Value, &w.Gas}
}
