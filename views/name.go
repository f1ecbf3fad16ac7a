package views

import "views/api"

// isName looks at the length first, so that a long text is not gone through.
func isName(text string) bool {
	if len(text) < 1 || len(text) > api.MaxName {
		return false
	}
	for i := range len(text) {
		if text[i] < 'a' || text[i] > 'z' {
			return false
		}
	}
	return true
}
