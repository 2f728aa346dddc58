package users

// longestName is how many bytes a name may have.
const longestName = 32

// isName tells whether a text is a name.
func isName(s string) bool {
	if s == "" || len(s) > longestName {
		return false
	}
	for i := range len(s) {
		if !inName(s[i]) {
			return false
		}
	}
	return true
}

// inName tells whether a byte may stand in a name.
func inName(v byte) bool {
	return v >= 'a' && v <= 'z' || v >= '0' && v <= '9' || v == '.' || v == '-' || v == '_'
}

// areNames tells whether texts are names, none of them twice.
func areNames(l []string) bool {
	seen := map[string]struct{}{}
	for _, s := range l {
		if _, again := seen[s]; again || !isName(s) {
			return false
		}
		seen[s] = struct{}{}
	}
	return true
}
