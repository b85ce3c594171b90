package incident

import (
	"strconv"
	"strings"

	"leakresponse/api"
)

// The places of a line at which one of two words stands, and that of the fingerprint.
const (
	printPlace   = 1
	publicPlace  = 4
	rotatedPlace = 17
	deadPlace    = 18
)

// line returns the words of a line; those that differ from line to line are left out.
func line() []string {
	return []string{
		"leak", "", "spots", "", "", "readers", "", "since", "", "level", "",
		"worth", "", "audience", "", "score", "", "", "",
	}
}

// numbers returns the numbers of a summary, under their places in a line.
func numbers(m *api.Summary) map[int]*int {
	return map[int]*int{
		3: &m.Spots, 6: &m.Readers, 8: &m.Since,
		10: &m.Severity.Level, 12: &m.Severity.Worth, 14: &m.Severity.Audience, 16: &m.Severity.Score,
	}
}

func choice(first bool, a, b string) string {
	if first {
		return a
	}
	return b
}

// Text returns the line of a summary.
func Text(m api.Summary) string {
	words := line()
	for place, n := range numbers(&m) {
		words[place] = strconv.Itoa(*n)
	}
	words[printPlace] = strconv.FormatUint(m.Fingerprint, 10)
	words[publicPlace] = choice(m.Public, "public", "inside")
	words[rotatedPlace] = choice(m.Rotated, "rotated", "valid")
	words[deadPlace] = choice(m.Dead, "dead", "alive")
	return strings.Join(words, " ")
}

// Parse returns the summary whose line this is.
func Parse(text string) (api.Summary, api.Errno) {
	words := strings.Split(text, " ")
	if len(words) != len(line()) {
		return api.Summary{}, api.ErrSyntax
	}
	mark, err := strconv.ParseUint(words[printPlace], 10, 64)
	m := api.Summary{Fingerprint: mark, Public: words[publicPlace] == "public", Rotated: words[rotatedPlace] == "rotated", Dead: words[deadPlace] == "dead"}
	ok := err == nil
	for place, n := range numbers(&m) {
		value, err := strconv.Atoi(words[place])
		*n = value
		ok = ok && err == nil
	}
	// Numbers are read in more forms than they are written in.
	if !ok || Text(m) != text {
		return api.Summary{}, api.ErrSyntax
	}
	return m, api.OK
}
