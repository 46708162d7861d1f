package table

import "mulligan/api"

// effect is one without others within.
func effect(op, n, m, who int) api.Effect { return api.Effect{Op: op, N: n, M: m, Who: who} }

// all is an effect on a group of creatures, which it is about one by one.
func all(group, op, n, m int) api.Effect {
	return api.Effect{Op: api.All, N: group, Subs: []api.Effect{effect(op, n, m, api.Target)}}
}

// seq is one effect and then another one.
func seq(first, second api.Effect) api.Effect {
	return api.Effect{Op: api.Seq, Subs: []api.Effect{first, second}}
}

// spell is what Magic does.
func spell(target int, do api.Effect) api.Ability {
	return api.Ability{When: api.Spell, Target: target, Do: do}
}

// active is what is done for a cost, and, if tap says so, for tapping.
func active(cost api.Cost, tap bool, target int, do api.Effect) api.Ability {
	return api.Ability{When: api.Active, Cost: cost, Tap: tap, Target: target, Do: do}
}

// at is an ability that counts then, without anything being paid or aimed at.
func at(when int, do api.Effect) api.Ability { return api.Ability{When: when, Do: do} }

// manaTap is so much mana for tapping.
func manaTap(n, place int) api.Ability {
	return api.Ability{When: api.ManaTap, Tap: true, Do: effect(api.AddMana, n, place, api.You)}
}

// price is so much of a colour, and so much of whatever kind.
func price(c, n, whatever int) api.Cost {
	cost := api.Cost{plain: whatever}
	cost[c] += n
	return cost
}

// source is a Source of a colour.
func source(c int, abilities ...api.Ability) api.Card {
	return api.Card{Kind: api.Source, Colour: c, Abilities: abilities}
}

// magic is Magic of a colour.
func magic(c int, fast bool, cost api.Cost, does api.Ability) api.Card {
	return api.Card{Kind: api.Magic, Colour: c, Fast: fast, Cost: cost, Abilities: []api.Ability{does}}
}

// relic is a Relic of a colour.
func relic(c int, cost api.Cost, does api.Ability) api.Card {
	return api.Card{Kind: api.Relic, Colour: c, Cost: cost, Abilities: []api.Ability{does}}
}

// token is a token by its place among them.
func token(k int) api.Card {
	return api.Card{Kind: api.Beast, Colour: plain, Power: k/2 + 1, Tough: k/2 + 1, Says: k % 2 * api.Flying}
}
