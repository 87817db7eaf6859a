package tests

import (
	"slices"
	"sort"

	"loop.example/g00023/impl"
)

// Services in plain words: names alone, each looked for in all units again.

func plainUnitOk(u impl.Unit) bool {
	for _, name := range slices.Concat([]string{u.Name}, u.After, u.Needs) {
		if !plainNames60.MatchString(name) {
			return false
		}
	}
	return plainRises(u.After) && plainRises(u.Needs) && len(u.After) <= 20 && len(u.Needs) <= 20 && len(u.Exec) <= 4000
}

func plainUnitsOk(us []impl.Unit) bool {
	for _, u := range us {
		if !plainUnitOk(u) {
			return false
		}
	}
	return len(us) <= 100 && plainRises(unitNamesOf(us))
}

func unitNamesOf(us []impl.Unit) []string {
	names := []string{}
	for _, u := range us {
		names = append(names, u.Name)
	}
	return names
}

func plainUnitAt(us []impl.Unit, name string) int {
	return slices.Index(unitNamesOf(us), name)
}

// plainWaits are the names that a unit waits for, ascending, with Needs that are not there.
func plainWaits(us []impl.Unit, u impl.Unit) []string {
	waits := slices.Clone(u.Needs)
	for _, name := range u.After {
		if plainUnitAt(us, name) >= 0 {
			waits = append(waits, name)
		}
	}
	sort.Strings(waits)
	return slices.Compact(waits)
}

func hasAll(list []string, wanted []string) bool {
	return !slices.ContainsFunc(wanted, func(name string) bool { return !slices.Contains(list, name) })
}

func plainStartOrder(us []impl.Unit) ([]string, bool) {
	if !plainUnitsOk(us) {
		return nil, false
	}
	stand := []string{}
	for {
		next := slices.IndexFunc(us, func(u impl.Unit) bool {
			return !slices.Contains(stand, u.Name) && hasAll(stand, plainWaits(us, u))
		})
		if next < 0 {
			return stand, len(stand) == len(us)
		}
		stand = append(stand, us[next].Name)
	}
}

// plainCycle goes through all rows of one unit, then of two and so on, in the order of their names; none but the first is the least of its row.
func plainCycle(us []impl.Unit) []string {
	if !plainUnitsOk(us) {
		return nil
	}
	waits := map[string][]string{}
	for _, u := range us {
		waits[u.Name] = plainWaits(us, u)
	}
	for size := range len(us) {
		for _, u := range us {
			if ring := plainRing(waits, []string{u.Name}, size); ring != nil {
				return ring
			}
		}
	}
	return nil
}

// plainRing is the first circle that begins with this row and has so many more; nil when there is none.
func plainRing(waits map[string][]string, row []string, more int) []string {
	nexts := waits[row[len(row)-1]]
	if more == 0 {
		if slices.Contains(nexts, row[0]) {
			return row
		}
		return nil
	}
	for _, next := range nexts {
		if next > row[0] && !slices.Contains(row, next) {
			if ring := plainRing(waits, append(slices.Clone(row), next), more-1); ring != nil {
				return ring
			}
		}
	}
	return nil
}

func plainFailing(us []impl.Unit, broken []string) []string {
	if !plainUnitsOk(us) || len(broken) > 2000 {
		return nil
	}
	runs := unitNamesOf(us)
	runs = slices.DeleteFunc(runs, func(name string) bool { return slices.Contains(broken, name) })
	for {
		left := slices.DeleteFunc(slices.Clone(runs), func(name string) bool { return !hasAll(runs, us[plainUnitAt(us, name)].Needs) })
		if len(left) == len(runs) {
			break
		}
		runs = left
	}
	return slices.DeleteFunc(unitNamesOf(us), func(name string) bool { return slices.Contains(runs, name) })
}

// plainStops are all names of old that go, in the order in which they stop.
func plainStops(old []impl.Unit, new []impl.Unit, running []string) []string {
	order, _ := plainStartOrder(old)
	stops := []string{}
	for _, name := range unitNamesOf(old) {
		if !slices.Contains(order, name) {
			stops = append([]string{name}, stops...)
		}
	}
	slices.Reverse(order)
	stops = append(stops, order...)
	return slices.DeleteFunc(stops, func(name string) bool {
		return !slices.Contains(running, name) || plainUnitAt(new, name) >= 0
	})
}

func plainPlan(old []impl.Unit, new []impl.Unit, running []string) []impl.Act {
	if !plainUnitsOk(old) || !plainUnitsOk(new) || len(running) > 2000 {
		return nil
	}
	acts := []impl.Act{}
	for _, name := range plainStops(old, new, running) {
		acts = append(acts, impl.Act{Kind: 1, Name: name})
	}
	order, _ := plainStartOrder(new)
	for _, name := range order {
		was, is := plainUnitAt(old, name), new[plainUnitAt(new, name)]
		switch {
		case !slices.Contains(running, name):
			acts = append(acts, impl.Act{Kind: 2, Name: name})
		case was >= 0 && old[was].Exec != is.Exec && !is.Keep:
			acts = append(acts, impl.Act{Kind: 3, Name: name})
		}
	}
	return acts
}

func plainActsDone(running []string, as []impl.Act) []string {
	if len(running) > 2000 || len(as) > 2000 {
		return nil
	}
	runs := slices.Clone(running)
	for _, a := range as {
		runs = slices.DeleteFunc(runs, func(name string) bool { return name == a.Name })
		if a.Kind != 1 {
			runs = append(runs, a.Name)
		}
	}
	sort.Strings(runs)
	return slices.Compact(runs)
}
