package users

import (
	"maps"
	"slices"
	"strings"

	"pigeonhole/addr"
	"pigeonhole/api"
)

// AddAlias makes an alias.
func (t *Table) AddAlias(name string, to []string) api.Errno {
	switch {
	case !isName(name) || len(to) == 0 || !areNames(to):
		return api.ErrForm
	case len(to) > api.MaxTargets:
		return api.ErrLarge
	case t.isUser(name):
		return api.ErrThere
	case len(t.aliases) >= api.MaxAliases && !t.isAlias(name):
		return api.ErrFull
	}
	// Copies, since what is handed in isn't kept.
	var kept []string
	for _, s := range to {
		kept = append(kept, strings.Clone(s))
	}
	t.aliases[strings.Clone(name)] = kept
	return api.OK
}

// DropAlias takes an alias away.
func (t *Table) DropAlias(name string) api.Errno {
	if !t.isAlias(name) {
		return api.ErrNone
	}
	delete(t.aliases, name)
	return api.OK
}

// Aliases are all aliases.
func (t *Table) Aliases() []api.Alias {
	var l []api.Alias
	for _, name := range slices.Sorted(maps.Keys(t.aliases)) {
		l = append(l, api.Alias{Name: name, To: slices.Clone(t.aliases[name])})
	}
	return l
}

// Resolve is the users to whom a mailbox leads.
func (t *Table) Resolve(a api.Addr) ([]int, api.Errno) {
	key := addr.Key(a)
	if key == "" {
		return nil, api.ErrForm
	}
	// A domain has no "@", so that what stands behind the key's last one is the mailbox's.
	name, ok := strings.CutSuffix(key, "@"+t.domain)
	if !ok {
		return nil, api.ErrNone
	}
	led := t.reached(name)
	var numbers []int
	for u := range t.rising() {
		if slices.Contains(led, u.Name) {
			numbers = append(numbers, u.Number)
		}
	}
	if len(numbers) == 0 {
		return nil, api.ErrNone
	}
	return numbers, api.OK
}

// reached is a name, and all that are come to from it, be they somebody's or not.
func (t *Table) reached(name string) []string {
	names := []string{name}
	// The list grows while it is gone through; since no name comes to it twice, aliases that stand for each other end it too.
	for i := 0; i < len(names); i++ {
		for _, s := range t.aliases[names[i]] {
			if !slices.Contains(names, s) {
				names = append(names, s)
			}
		}
	}
	return names
}

// isAlias tells whether an alias has a name.
func (t *Table) isAlias(name string) bool {
	_, ok := t.aliases[name]
	return ok
}
