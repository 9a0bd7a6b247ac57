import Derived.Test.YtepneihjhcakhaaGreatDoorLawP
import Derived.Test.YtepneihjhcakhaaGreatDoorRowB
namespace Go.Proofs.YtepneihjhcakhaaGreatDoor

/-- The statement. -/
theorem treesUptoCard : Rows.TreesUptoCardSaid := cardUpto fun _ _ _ _ _ hl hm hS hlen hO => trees_any hl hm hS hlen hO
#print axioms treesUptoCard
end Go.Proofs.YtepneihjhcakhaaGreatDoor
