package kinds

import (
	"bivouac/api"
)

// mayBeKind: may a kind be in a book with so many weapons?
func mayBeKind(k api.Kind, weapons int) bool {
	return within(api.Tracked, api.Air, k.Class) &&
		within(1, api.MaxHealth, k.Health) &&
		k.Speed >= 0 && k.Speed <= api.One &&
		within(0, api.HalfCircle, k.Turn) &&
		within(0, api.MaxReach, k.Sight, k.Radar, k.Sonar, k.Jam) &&
		within(0, api.MaxCost, k.Metal, k.Energy, k.StoreM, k.StoreE, k.Wreck) &&
		within(1, api.MaxCost, k.Work) &&
		within(0, api.MaxPower, k.GiveM, k.GiveE, k.EatE, k.Build) &&
		within(0, api.MaxCarry, k.Carry) &&
		(k.Weapon == api.NoWeapon || within(0, weapons-1, k.Weapon))
}

func mayBeWeapon(w api.Weapon) bool {
	return within(1, api.MaxReach, w.Reach) &&
		within(0, api.MaxHealth, w.Damage) &&
		w.Speed > 0 && w.Speed <= 4*api.One &&
		within(1, api.MaxReload, w.Reload) &&
		within(0, api.MaxSplash, w.Splash)
}

// within: is each of these from least to most?
func within(least, most int, numbers ...int) bool {
	for _, n := range numbers {
		if n < least || n > most {
			return false
		}
	}
	return true
}
