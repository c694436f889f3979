package kit

import (
	"strings"

	"shotline/api"
	"shotline/lines"
)

const (
	// textDigits is the most digits of a number in a text.
	textDigits = 7

	// The first words of the lines of a setup.
	itemWord = "item"
	ruleWord = "rule"
)

// itemKind is a kind of items, and verdict whether a check or an analysis passed; both stand in texts as words.
type (
	itemKind int
	verdict  bool
)

// FormatEvent returns the text of an event.
func FormatEvent(x api.KitEvent) string {
	for word, kind := range eventKinds() {
		if kind == x.Kind {
			return lines.Written(word, placesOfEvent(&x)...)
		}
	}
	return ""
}

// ParseEvent returns the event with a text.
func ParseEvent(s string) (api.KitEvent, api.Errno) {
	words := strings.Split(s, " ")
	kind, ok := eventKinds()[words[0]]
	x := api.KitEvent{Kind: kind}
	// No word of a text has a line feed.
	if !ok || strings.Contains(s, "\n") || !lines.Read(words[1:], textDigits, placesOfEvent(&x)...) {
		return api.KitEvent{}, api.ErrSyntax
	}
	return x, api.OK
}

// Print returns the text of a setup.
func Print(k api.KitSetup) (string, api.Errno) {
	if e := CheckSetup(k); e != api.OK {
		return "", e
	}
	text := ""
	for _, item := range k.Items {
		text += lines.Written(itemWord, placesOfItem(&item)...) + "\n"
	}
	for _, rule := range k.Rules {
		text += lines.Written(ruleWord, placesOfRule(&rule)...) + "\n"
	}
	return text, api.OK
}

// Parse returns the setup with a text; beside ErrSyntax the number of the line that is wrong.
func Parse(s string) (api.KitSetup, int, api.Errno) {
	if len(s) > api.MaxText {
		return api.KitSetup{}, 0, api.ErrLarge
	}
	var k api.KitSetup
	for number, words := range lines.Of(s) {
		if !readLine(words, &k) {
			return api.KitSetup{}, number, api.ErrSyntax
		}
	}
	if e := CheckSetup(k); e != api.OK {
		return api.KitSetup{}, 0, e
	}
	return k, 0, api.OK
}

// readLine adds what the words of a line say to a setup, and tells whether they may stand behind it.
func readLine(words []string, k *api.KitSetup) bool {
	if len(words) == 0 {
		return false
	}
	switch words[0] {
	case itemWord:
		var item api.KitItem
		ok := len(k.Rules) == 0 && lines.Read(words[1:], textDigits, placesOfItem(&item)...)
		k.Items = append(k.Items, item)
		return ok
	case ruleWord:
		var rule api.KitRule
		ok := lines.Read(words[1:], textDigits, placesOfRule(&rule)...)
		k.Rules = append(k.Rules, rule)
		return ok
	}
	return false
}

// placesOfItem, placesOfRule and placesOfEvent return where is kept what stands behind the first word of a line.
func placesOfItem(i *api.KitItem) []any {
	return []any{&i.Name, (*itemKind)(&i.Kind), &i.Bought}
}

func placesOfRule(r *api.KitRule) []any {
	return []any{&r.Name, (*itemKind)(&r.Kind), &r.Days, &r.Uses}
}

func placesOfEvent(x *api.KitEvent) []any {
	switch x.Kind {
	case api.KitCheck:
		return []any{&x.Day, &x.Item, &x.Rule, (*verdict)(&x.Passed)}
	case api.KitFill:
		return []any{&x.Day, &x.From, &x.Item}
	case api.KitAir:
		return []any{&x.Day, &x.Item, (*verdict)(&x.Passed)}
	}
	return []any{&x.Day, &x.Item}
}

// eventKinds returns the kinds of events by the first words of their texts.
func eventKinds() map[string]int {
	return map[string]int{
		"check": api.KitCheck,
		"use":   api.KitUse,
		"fill":  api.KitFill,
		"empty": api.KitEmpty,
		"air":   api.KitAir,
	}
}

// itemKinds returns the kinds of items by their words.
func itemKinds() map[string]itemKind {
	return map[string]itemKind{
		"cylinder":   api.KitCylinder,
		"regulator":  api.KitRegulator,
		"compressor": api.KitCompressor,
		"other":      api.KitOther,
	}
}

// Word returns the word of a kind.
func (k *itemKind) Word() string {
	for word, kind := range itemKinds() {
		if kind == *k {
			return word
		}
	}
	return ""
}

// Take takes the kind of a word.
func (k *itemKind) Take(word string) bool {
	kind, ok := itemKinds()[word]
	*k = kind
	return ok
}

// Word returns the word of a verdict.
func (v *verdict) Word() string {
	if *v {
		return "pass"
	}
	return "fail"
}

// Take takes the verdict of a word.
func (v *verdict) Take(word string) bool {
	*v = word == "pass"
	return word == "pass" || word == "fail"
}
