/-
  The reference's whole and Next, as walks over the Go text.
-/
import Derived.Test.YtcojhfppipdfoabVerRefA
namespace Go.Proofs.Ytcojhfppipdfoab.B
open Go.ChangeShapes Go.WideShapes Go.ChangeAt Go.RowKit
open Go.Sort hiding Below
set_option linter.unusedVariables false

/-- the places that come behind, as a row of numbers -/
def Nx (w : World) (a : Option Addr) (js : List Nat) : Prop := js = [] ∨ ∃ g, a = some ⟨g, 0, none⟩ ∧ g < w.heap.size ∧ ∀ j (h : j < js.length), w.cell? ⟨g, j, none⟩ = some (.int .i64 (js[j] : Int))
theorem nx_new (w : World) (js : List Nat) (t : TypeId) : Nx (w.alloc (.cells (js.map (fun (x : Nat) => Value.int .i64 (x : Int))).toArray t)) (some ⟨w.heap.size, 0, none⟩) js :=
  .inr ⟨_, rfl, by simp, fun j h => by rw [cell_lit, List.getElem?_map, List.getElem?_eq_getElem h]; rfl⟩
theorem Nx.below {w w' : World} {a : Option Addr} {js : List Nat} (h : Nx w a js) (hb : Below w.heap.size w w') : Nx w' a js := by
  rcases h with h | ⟨g, e, h1, h2⟩
  · exact .inl h
  · exact .inr ⟨g, e, Nat.lt_of_lt_of_le h1 hb.size, fun j hj => (hb.cell (p := ⟨g, j, none⟩) h1).trans (h2 j hj)⟩
theorem Nx.off {w : World} {a : Option Addr} {js : List Nat} {b k : Nat} {v : Value} (h : Nx w a js) (hne : ∀ A, a = some A → A.block ≠ b) : Nx (w.setCell ⟨b, k, none⟩ v) a js := by
  rcases h with h | ⟨g, e, h1, h2⟩
  · exact .inl h
  · exact .inr ⟨g, e, by simpa using h1, fun j hj => by rw [World.cell?_setCell_far _ _ _ _ (by simpa using fun x => hne _ e x.symm)]; exact h2 j hj⟩
set_option maxHeartbeats 1600000 in
set_option maxRecDepth 100000 in
theorem next_at (b o n cap j : Nat) (c : Int) (t f k : Nat) (hn : n ≤ 65536) (hj : j < n) (ok : M.okI (c, t, f, k)) (w : World) (hl : LiesAt w b o j (c, t, f, k)) :
    Calls Try.prog 22 #[.slice (some ⟨b, o, none⟩) n cap, .int .i64 j] w fun e w' => ∃ a, e = .returned (.slice a (M.nxt j (c, t, f, k)).length (M.nxt j (c, t, f, k)).length) ∧ Nx w' a (M.nxt j (c, t, f, k)) ∧ (∀ A, a = some A → w.heap.size ≤ A.block) ∧ Below w.heap.size w w' := by
  obtain ⟨p0, p1, p2, p3⟩ := hl
  simp only at p0 p1 p2 p3
  have i1 : (j : Int) < (n : Int) := by omega
  have b0 : 0 ≤ c ∧ c < 65536 := ok.1
  have b1 : 0 ≤ (t : Int) ∧ (t : Int) < 256 := ok.2.1
  have b2 : 0 ≤ (f : Int) ∧ (f : Int) < 256 := ok.2.2.1
  have b3 : 0 ≤ (k : Int) ∧ (k : Int) < 4294967296 := ok.2.2.2
  have hb0 := hid b0
  clear ok b0
  have HA := hid (al w (.cells #[.int .u16 c, .int .u8 t, .int .u8 f, .int .u32 k] 32))
  have hA := At.new w c t f k
  go_enter Try.func22, Try.ntmps22
  go_wp2_with fail
  refine (rkind_any _ hb0.out.1 hb0.out.2 _).mono ?_
  rintro e w1 ⟨rfl, hb⟩
  replace hA := hA.below hb
  replace HA := stp HA hb
  obtain ⟨a0, a1, a2, a3, _⟩ := hA.cells
  clear hb hA
  go_wp2
  all_goals go_ret
  · have e : M.kind c = 11 := eq_of_beq (by assumption)
    rw [M.nxt11 e]
    exact ⟨_, rfl, nx_new w1 [j + 1 + k] 3, (fun A h => by cases h; exact HA.out.size), HA.out.alloc HA.out.size _⟩
  · have e : M.kind c = 12 := eq_of_beq (by assumption)
    rw [M.nxt12 e]
    exact ⟨_, rfl, nx_new w1 [j + 1 + t, j + 1 + f] 3, (fun A h => by cases h; exact HA.out.size), HA.out.alloc HA.out.size _⟩
  · have e : M.kind c = 13 := eq_of_beq (by assumption)
    rw [M.nxt13 (Or.inl e)]
    exact ⟨none, rfl, .inl rfl, (fun A h => by cases h), HA.out⟩
  · have e : M.kind c = 14 := eq_of_beq (by assumption)
    rw [M.nxt13 (Or.inr e)]
    exact ⟨none, rfl, .inl rfl, (fun A h => by cases h), HA.out⟩
  · rename_i h0 h1 h2 h3
    rw [beq_eq_false_iff_ne] at h0 h1 h2 h3
    rw [M.nxtE ⟨h0, h1, h2, h3⟩]
    exact ⟨_, rfl, nx_new w1 [j + 1] 3, (fun A h => by cases h; exact HA.out.size), HA.out.alloc HA.out.size _⟩
theorem next_ly (b o n cap j : Nat) (l : List M.I) (hln : l.length = n) (hn : n ≤ 65536) (hj : j < l.length) (ok : ∀ i ∈ l, M.okI i) (w : World) (hl : Ly w b o l) (js : List Nat) (m : Nat) (hjs : M.nxt j l[j] = js) (hm : js.length = m) :
    Calls Try.prog 22 #[.slice (some ⟨b, o, none⟩) n cap, .int .i64 j] w fun e w' => ∃ a, e = .returned (.slice a m m) ∧ Nx w' a js ∧ (∀ A, a = some A → w.heap.size ≤ A.block) ∧ Below w.heap.size w w' := by
  have h1 := ok _ (List.getElem_mem hj)
  have h2 := hl.2 j hj
  subst hjs hm
  generalize l[j] = x at *
  obtain ⟨c, t, f, k⟩ := x
  obtain ⟨b0, b1, b2, b3⟩ := h1
  simp only at b0 b1 b2 b3
  obtain ⟨d, rfl⟩ : ∃ d : Nat, k = d := ⟨k.toNat, by omega⟩
  obtain ⟨t', rfl⟩ : ∃ d : Nat, t = d := ⟨t.toNat, by omega⟩
  obtain ⟨f', rfl⟩ : ∃ d : Nat, f = d := ⟨f.toNat, by omega⟩
  exact next_at b o n cap j c t' f' d hn (by omega) ⟨b0, b1, b2, b3⟩ w h2
end Go.Proofs.Ytcojhfppipdfoab.B
