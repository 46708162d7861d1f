package table

import "mulligan/api"

// beast is the Beast of a colour in row k.
func beast(c, k int) api.Card {
	b := api.Card{
		Kind: api.Beast, Colour: c, Cost: price(c, 1+k/4, k),
		Power: k/2 + 1, Tough: (k+1)/2 + 1, Says: 1 << k, Abilities: beastAbilities(c, k),
	}
	switch c {
	case 3:
		b.Power++
	case 4:
		b.Tough++
	}
	return b
}

// beastAbilities is what the Beast of a colour in row k can do.
func beastAbilities(c, k int) []api.Ability {
	switch c {
	case 0:
		return []api.Ability{at(api.Enters, effect(api.Gain, k+1, 0, api.You))}
	case 1:
		if k%2 == 0 {
			return nil
		}
		return []api.Ability{at(api.Enters, effect(api.Draw, 1, 0, api.You))}
	case 2:
		return []api.Ability{at(api.Dies, effect(api.Lose, k/2+1, 0, api.Other))}
	case 3:
		return []api.Ability{active(price(3, 1, 0), true, api.Any, effect(api.Damage, 1, 0, api.Target))}
	}
	return []api.Ability{active(price(4, 1, 0), false, api.NoTarget, effect(api.Pump, 1, 1, api.Self))}
}

// spells is what the Magic of row k does, by colours.
func spells(k int) [colours]api.Ability {
	switch k {
	case 0:
		return [...]api.Ability{
			spell(api.NoTarget, effect(api.Gain, 4, 0, api.You)),
			spell(api.Cast, effect(api.Counter, 0, 0, api.Target)),
			spell(api.Creature, effect(api.Pump, -2, -2, api.Target)),
			spell(api.Any, effect(api.Damage, 2, 0, api.Target)),
			spell(api.Creature, effect(api.Pump, 3, 3, api.Target)),
		}
	case 1:
		return [...]api.Ability{
			spell(api.Creature, effect(api.Destroy, 0, 0, api.Target)),
			spell(api.NoTarget, effect(api.Draw, 2, 0, api.You)),
			spell(api.Player, effect(api.Discard, 1, 0, api.Target)),
			spell(api.Creature, effect(api.Damage, 4, 0, api.Target)),
			spell(api.Creature, effect(api.Grow, 2, 0, api.Target)),
		}
	case 2:
		return [...]api.Ability{
			spell(api.NoTarget, all(1, api.Pump, 1, 1)),
			spell(api.Thing, effect(api.Bounce, 0, 0, api.Target)),
			spell(api.Player, effect(api.Lose, 3, 0, api.Target)),
			spell(api.Creature, effect(api.Pump, 3, 0, api.Target)),
			spell(api.Creature, effect(api.Grant, api.Trample, 0, api.Target)),
		}
	case 3:
		return [...]api.Ability{
			spell(api.Thing, effect(api.Banish, 0, 0, api.Target)),
			spell(api.NoTarget, effect(api.Look, 3, 0, api.You)),
			spell(api.NoTarget, seq(effect(api.Lose, 2, 0, api.Other), effect(api.Gain, 2, 0, api.You))),
			spell(api.NoTarget, all(0, api.Damage, 2, 0)),
			spell(api.NoTarget, effect(api.Make, 2, 116, api.You)),
		}
	case 4:
		return [...]api.Ability{
			spell(api.NoTarget, seq(effect(api.Gain, 2, 0, api.You), effect(api.Draw, 1, 0, api.You))),
			spell(api.Creature, effect(api.Tap, 0, 0, api.Target)),
			spell(api.Creature, effect(api.Destroy, 0, 0, api.Target)),
			spell(api.NoTarget, effect(api.Damage, 3, 0, api.Each)),
			spell(api.NoTarget, effect(api.AddMana, 3, 4, api.You)),
		}
	}
	poor := api.Effect{Op: api.If, N: 0, M: 10, Subs: []api.Effect{effect(api.Gain, 8, 0, api.You), effect(api.Draw, 1, 0, api.You)}}
	return [...]api.Ability{
		spell(api.NoTarget, poor),
		spell(api.NoTarget, seq(effect(api.Draw, 3, 0, api.You), effect(api.Discard, 1, 0, api.You))),
		spell(api.NoTarget, effect(api.Mill, 4, 0, api.Each)),
		spell(api.Any, seq(effect(api.Damage, 2, 0, api.Target), effect(api.Draw, 1, 0, api.You))),
		spell(api.NoTarget, all(1, api.Grow, 1, 0)),
	}
}

// relicAbilities is what the Relics of row k can do, by colours.
func relicAbilities(k int) [colours]api.Ability {
	switch k {
	case 0:
		return [...]api.Ability{
			at(api.Static, all(1, api.Pump, 0, 2)),
			at(api.Static, all(1, api.Grant, api.Flying, 0)),
			at(api.Static, all(2, api.Pump, -1, 0)),
			at(api.Static, all(1, api.Pump, 1, 0)),
			at(api.Static, all(1, api.Pump, 1, 1)),
		}
	case 1:
		return [...]api.Ability{
			at(api.Upkeeps, effect(api.Gain, 1, 0, api.You)),
			at(api.Upkeeps, effect(api.Look, 1, 0, api.You)),
			at(api.Upkeeps, effect(api.Lose, 1, 0, api.Each)),
			at(api.Upkeeps, effect(api.Damage, 1, 0, api.Other)),
			at(api.Upkeeps, effect(api.AddMana, 1, 4, api.You)),
		}
	case 2:
		one := price(plain, 1, 0)
		return [...]api.Ability{
			active(one, true, api.Creature, effect(api.Pump, 0, 1, api.Target)),
			active(one, true, api.Creature, effect(api.Tap, 0, 0, api.Target)),
			active(one, true, api.NoTarget, effect(api.Lose, 1, 0, api.Other)),
			active(one, true, api.Any, effect(api.Damage, 1, 0, api.Target)),
			active(one, true, api.Creature, effect(api.Untap, 0, 0, api.Target)),
		}
	}
	return [...]api.Ability{
		at(api.Static, all(0, api.Strip, api.Flying, 0)),
		active(price(1, 1, 0), false, api.NoTarget, effect(api.Untap, 0, 0, api.Self)),
		at(api.Static, all(2, api.Become, 1, 1)),
		at(api.Dies, effect(api.Damage, 3, 0, api.Each)),
		at(api.Enters, effect(api.Make, 1, 119, api.You)),
	}
}

// single is a card from 100 to 111: they have no colour, and follow no rule.
func single(n int) api.Card {
	switch n {
	case 100:
		return magic(plain, false, price(plain, 1, 0), spell(api.NoTarget, effect(api.Shuffle, 0, 0, api.You)))
	case 101:
		return magic(plain, false, price(plain, 2, 0), spell(api.NoTarget, effect(api.Discard, 2, 0, api.Other)))
	case 102:
		return magic(plain, false, price(plain, 1, 0), spell(api.NoTarget, effect(api.Reveal, 3, 0, api.Other)))
	case 103:
		return magic(plain, true, price(plain, 1, 0), spell(api.NoTarget, effect(api.Look, 2, 0, api.Other)))
	case 104:
		return magic(plain, false, price(plain, 2, 0), spell(api.NoTarget, effect(api.Mill, 3, 0, api.Each)))
	case 105:
		return magic(plain, true, price(plain, 3, 0), spell(api.Cast, effect(api.Counter, 0, 0, api.Target)))
	case 106:
		return magic(plain, false, price(plain, 2, 0), spell(api.NoTarget, all(0, api.Bounce, 0, 0)))
	case 107:
		return relic(plain, price(plain, 2, 0), active(api.Cost{}, false, api.NoTarget, effect(api.AddMana, 1, plain, api.You)))
	case 108:
		return api.Card{
			Kind: api.Beast, Colour: plain, Cost: price(plain, 2, 0), Power: 1, Tough: 1,
			Abilities: []api.Ability{active(price(plain, 1, 0), false, api.NoTarget, effect(api.Untap, 0, 0, api.Self)), manaTap(2, plain)},
		}
	case 109:
		return magic(plain, false, price(plain, 3, 0), spell(api.NoTarget, effect(api.Make, 2, 112, api.You)))
	case 110:
		return magic(plain, false, price(plain, 4, 0), spell(api.NoTarget, all(0, api.Destroy, 0, 0)))
	}
	return api.Card{
		Kind: api.Beast, Colour: plain, Fast: true, Cost: price(plain, 3, 0), Power: 2, Tough: 3, Says: api.Flying | api.Haste,
		Abilities: []api.Ability{at(api.Dies, effect(api.Draw, 1, 0, api.You))},
	}
}
