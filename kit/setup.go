package kit

import (
	"shotline/api"
	"shotline/check"
)

// The most days and uses for which a check is good.
const (
	mostDays = 10000
	mostUses = 1000
)

// CheckSetup returns the error of a setup.
func CheckSetup(k api.KitSetup) api.Errno {
	if len(k.Items) > api.MaxKitItems {
		return api.ErrLarge
	}
	if e := check.Named(k.Items, func(i api.KitItem) string { return i.Name }, checkItem); e != api.OK {
		return e
	}
	if len(k.Rules) > api.MaxKitRules {
		return api.ErrLarge
	}
	return check.Named(k.Rules, func(r api.KitRule) string { return r.Name }, checkRule)
}

// checkItem returns the error of an item but for its name.
func checkItem(i api.KitItem) api.Errno {
	return check.First(checkItemKind(i.Kind), checkDay(i.Bought))
}

// checkRule returns the error of a rule but for its name.
func checkRule(r api.KitRule) api.Errno {
	e := check.First(checkItemKind(r.Kind), check.Range(r.Days, 0, mostDays), check.Range(r.Uses, 0, mostUses))
	if e == api.OK && r.Days == 0 && r.Uses == 0 {
		return api.ErrZero
	}
	return e
}

// checkItemKind returns ErrKind if a number is no kind of items.
func checkItemKind(kind int) api.Errno {
	if !check.Within(kind, api.KitCylinder, api.KitOther) {
		return api.ErrKind
	}
	return api.OK
}
