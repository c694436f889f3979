package mix

import (
	"strings"

	"shotline/api"
	"shotline/lines"
)

// textDigits is the most digits of a number in a text.
const textDigits = 10

// FormatFill returns the text of a fill.
func FormatFill(x api.MixFill) string {
	for word, f := range emptyFills() {
		if f.Kind == x.Kind && (f.Pump == x.Pump || x.Kind != api.MixMove) {
			return lines.Written(word, placesOf(&x)...)
		}
	}
	return ""
}

// ParseFill returns the fill with a text.
func ParseFill(s string) (api.MixFill, api.Errno) {
	words := strings.Split(s, " ")
	f, ok := emptyFills()[words[0]]
	// No word of a text has a line feed.
	if !ok || strings.Contains(s, "\n") || !lines.Read(words[1:], textDigits, placesOf(&f)...) {
		return api.MixFill{}, api.ErrSyntax
	}
	return f, api.OK
}

// emptyFills returns by the first words of texts what they tell of a fill.
func emptyFills() map[string]api.MixFill {
	return map[string]api.MixFill{
		"in":   {Kind: api.MixIn},
		"move": {Kind: api.MixMove},
		"pump": {Kind: api.MixMove, Pump: true},
		"vent": {Kind: api.MixVent},
	}
}

// placesOf returns where a fill keeps what stands behind the first word of its text.
func placesOf(f *api.MixFill) []any {
	switch f.Kind {
	case api.MixIn:
		return []any{&f.Day, &f.To, &f.Gas.Oxygen, &f.Gas.Helium, &f.Amount}
	case api.MixMove:
		return []any{&f.Day, &f.From, &f.To, &f.Amount}
	}
	return []any{&f.Day, &f.From, &f.Amount}
}
