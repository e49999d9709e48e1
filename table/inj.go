package table

import (
	"cmp"

	"pallet/api"
	"pallet/pico"
)

// order is below 0, if an injection comes ahead of another one, above 0, if it comes behind it, and 0, if they are the same.
func order(x, y api.Inj) int {
	return cmp.Or(
		cmp.Compare(x.At, y.At),
		cmp.Compare(x.Kind, y.Kind),
		cmp.Compare(x.Who, y.Who),
		cmp.Compare(x.Until, y.Until),
	)
}

// isInstant tells whether injections of a kind are over as they begin.
func isInstant(kind int) bool { return kind == api.BabbleI || kind == api.CrashI }

// may tells whether an injection may be, wherever it stands.
func may(x api.Inj) bool {
	among := api.MaxNodes
	if x.Kind == api.CutI {
		among = api.Channels
	}
	return x.Kind >= api.SilenceI && x.Kind <= api.CrashI &&
		x.Who >= 0 && x.Who < among &&
		pico.May(x.At, x.Until) && x.At >= 0 && x.Until >= x.At &&
		(x.Until == x.At || !isInstant(x.Kind))
}
