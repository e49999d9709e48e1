package frame

import (
	"math/bits"

	"pallet/api"
)

// Has tells whether a node is a member, With and Without are members with it, and without, Count is how many there are.
func Has(members uint16, node int) bool { return members&bit(node) != 0 }

func With(members uint16, node int) uint16 { return members | bit(node) }

func Without(members uint16, node int) uint16 { return members &^ bit(node) }

func Count(members uint16) int { return bits.OnesCount16(members) }

// bit is a node's bit of the members; of no node it is none.
func bit(node int) uint16 {
	if !isNode(node) {
		return 0
	}
	return 1 << node
}

func isNode(node int) bool { return node >= 0 && node < api.MaxNodes }
