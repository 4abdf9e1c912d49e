/-
  A code by its name, and a name by its code, as walks over the Go text.
-/
import Derived.Test.YtapjjpjiggjlfaaDoorCodCodes
namespace Go.Proofs.YtapjjpjiggjlfaaDoor.B
open Go.ChangeShapes Go.WideShapes Go.ChangeAt Go.RowKit Go.Maps Go.Sort
set_option linter.unusedVariables false

theorem hid {p : Prop} (h : p) : Hid p := h
theorem isMap_fold : ∀ (l : List (List UInt8 × Int)) (D : DataW Unit), IsMap D → IsMap (fold l D)
  | [], _, h => h
  | p :: l, D, h => isMap_fold l _ (h.put _ _)
theorem ky_ne {s t : List UInt8} (h : s ≠ t) : ky s ≠ ky t := fun e => h (by injection e)
theorem has_fold' (s : List UInt8) : ∀ (l : List (List UInt8 × Int)) (D : DataW Unit), IsMap D → has (fold l D) (ky s) = (has D (ky s) || l.any fun p => p.1 == s)
  | [], D, _ => by simp [fold]
  | p :: l, D, h => by
    show has (fold l (D.put (ky p.1) (vl p.2))) (ky s) = _
    rw [has_fold' s l _ (h.put _ _)]
    by_cases e : p.1 = s
    · subst e
      rw [has_put_same h (by first | trivial | simp [WideAt.IsKeyLit])]
      simp
    · have he : (p.1 == s) = false := by simpa using e
      rw [has_put_other (ky_ne fun e' => e e'.symm)]
      simp [he]
theorem at_fold (s : List UInt8) (z : DataW Unit) : ∀ (l : List (List UInt8 × Int)) (D : DataW Unit), IsMap D → (l.map (·.1)).Nodup → (fold l D).atKey (ky s) z = ((l.find? fun p => p.1 == s).map fun p => vl p.2).getD (D.atKey (ky s) z)
  | [], D, _, _ => by simp [fold]
  | p :: l, D, h, hn => by
    show (fold l (D.put (ky p.1) (vl p.2))).atKey (ky s) z = _
    simp only [List.map_cons, List.nodup_cons] at hn
    rw [at_fold s z l _ (h.put _ _) hn.2]
    by_cases e : p.1 = s
    · subst e
      rw [(M.find_eq_none l _).2 (fun q hq => by
        simp only [beq_eq_false_iff_ne, ne_eq]
        exact fun e => hn.1 (List.mem_map.2 ⟨q, hq, e⟩))]
      rw [atKey_put_same h (by first | trivial | simp [WideAt.IsKeyLit])]
      simp
    · rw [atKey_put_other (ky_ne fun e' => e e'.symm)]
      have he : (p.1 == s) = false := by simpa using e
      rw [List.find?_cons, he]
theorem has_D0 (s : List UInt8) : has D0 (ky s) = (M.find s).isSome := by
  unfold D0
  rw [has_fold' s _ _ isMap_empty]
  unfold M.find
  rw [Option.isSome_map, List.isSome_find?]
  simp [has]
theorem at_D0 (s : List UInt8) (z : Int) : D0.atKey (ky s) (vl z) = vl ((M.find s).getD z) := by
  unfold D0
  rw [at_fold s _ _ _ isMap_empty M.keys_nodup]
  unfold M.find
  cases M.tbl.find? (fun p => p.1 == s) <;> rfl
theorem left_step {left : Lit → Bool} {s x : List UInt8} (h : left (ky s) = true) (hne : s ≠ x) : (fun z : Lit => left z && !z.sameKey (ky x)) (ky s) = true := by
  simp only [h, sameKey_ne (ky_ne hne)]
  rfl
theorem zero16 (w : World) : (zeroValue 22).run Tryd.prog w = .ok (.int .u16 0) w := by kernel_rfl

set_option maxHeartbeats 4000000 in
set_option maxRecDepth 100000 in
theorem find_any (s : List UInt8) (hs : s.length ≤ maxLen) (w : World) :
    Calls Tryd.prog 28 #[.string ⟨s.toArray⟩] w fun e w' => e = .returned (.tuple #[.int .u16 ((M.find s).getD 0), .bool (M.find s).isSome]) ∧ Below w.heap.size w w' := by
  have hkey : keyOf Tryd.prog 9 (.string ⟨s.toArray⟩) = some (ky s) := by
    have := WideMaps.keyOf_string_mk (s := ⟨s.toArray⟩) Tryd.underlying9 (by show s.toArray.size ≤ _; simpa using hs)
    simpa using this
  have HK := hid hkey
  clear hkey
  go_enter Tryd.func28, Tryd.ntmps28
  go_wp2_with (first
    | (go_at_call 39; refine (codes_any _).mono ?_; rintro e w1 ⟨rfl, h1⟩; have H1 : Hid (Mp w w.heap.size w1) := h1; clear h1)
    | (at_lookup; refine wpList_lookup_own_ok_int _ rfl _ _ 80 rfl 9 22 .u16 law Tryd.underlying80 Tryd.underlying22 (zero16 _) w.heap.size 41 D0 rfl H1.out.own _ _ rfl HK.out ?_; intro c hat hwc; rw [at_D0] at hat; obtain rfl : (M.find s).getD 0 = c := (by simpa using hat); clear hat hwc)
    | go_in)
  go_ret2
  exact ⟨by rw [← has_D0]; rfl, H1.out.below⟩

set_option maxHeartbeats 4000000 in
set_option maxRecDepth 100000 in
theorem name_any (c : Int) (w : World) :
    Calls Tryd.prog 21 #[.int .u16 c] w fun e w' => e = .returned (.string ⟨(M.name c).toArray⟩) ∧ Below w.heap.size w w' := by
  go_enter Tryd.func21, Tryd.ntmps21
  go_wp2_with (first
    | (go_at_call 39; refine (codes_any _).mono ?_; rintro e w1 ⟨rfl, h1⟩; have H1 : Hid (Mp w w.heap.size w1) := h1; clear h1)
    | (at_range; refine wpList_range_own _ rfl _ 80 rfl 9 22 law Tryd.underlying80 _ w.heap.size 41 _ rfl H1.out.own ?_; intro w0 hrg0 hg0 hs0)
    | go_in)
  go_frame
  have HR0 := hid hrg0
  have HB0 : Hid (Below w.heap.size w w0) := H1.out.below.grown hg0 H1.out.below.size (fun j hj => by cases hj)
  clear hrg0 hg0 hs0
  go_loopw [3, 4] (fun _ _ wr => ∃ (left : Lit → Bool) (cnt : Nat), wr.ranges Tryd.prog 9 (plainElem Tryd.prog 22) w.heap.size w1.heap.size 41 D0 left cnt ∧ (∀ s, M.find s = some c → left (ky s) = true) ∧ Below w.heap.size w wr)
    (fun _ _ wr => wr.rangeLeft w.heap.size w1.heap.size)
  case atStart =>
    exact ⟨_, _, HR0.out, fun s h => by rw [has_D0, h]; rfl, HB0.out⟩
  case round =>
    obtain ⟨left, cnt, hrg, hl, hb⟩ := hrel
    have HL := hid hl
    have HB := hid hb
    clear hl hb HR0 HB0
    go_wp2_with (first
      | (at_next; refine wpList_next_ranges _ rfl _ rfl 9 law (plainElem Tryd.prog 22) encStr (Value.int .u16) (fun key kl hk => by obtain ⟨x, hx, _⟩ := Maps.keyOf_str Tryd.underlying9 hk; exact ⟨x, hx⟩) (fun v y hv => by obtain ⟨c, rfl, _⟩ := plainElem_int_inv Tryd.underlying22 hv; exact ⟨c, rfl⟩) w.heap.size w1.heap.size 41 _ _ _ rfl hrg ?_ ?_)
      | go_in)
    · intro hc0 hl0
      go_wp2
      go_ret
      refine ⟨?_, HB.out⟩
      rw [M.name_none (c := c) (fun p hp e => by
        have := HL.out p.1 (by rw [M.mem_find (c := p.2) hp, e])
        rw [hl0] at this; cases this)]
      rfl
    · intro x d kl yd yp w2 cnt2 hkey hlk hv hat hrg2 hlt hg2 hs2 hen
      obtain ⟨x', ex, rfl, _⟩ := Maps.keyOf_str Tryd.underlying9 hkey
      obtain rfl : x = x' := encStr_inj ex
      obtain ⟨c', ec, ez, _⟩ := plainElem_int_inv Tryd.underlying22 hv
      obtain rfl : d = c' := by simpa using ec
      obtain rfl : yd = vl d := (Prod.mk.inj ez).1
      have hf : M.find x = some d := by
        have h1 := hat (vl 0); have h2 := hat (vl 1)
        rw [at_D0] at h1 h2
        cases e : M.find x with
        | none => rw [e] at h1 h2; simp at h1 h2; omega
        | some q => rw [e] at h1; simp at h1; rw [h1]
      have HM : Hid ((x, d) ∈ M.tbl) := M.find_mem hf
      have HR2 := hid hrg2
      have HB2 : Hid (Below w.heap.size w w2) := HB.out.grown hg2 HB.out.size (fun j hj => by cases hj; exact H1.out.below.size)
      have HLT : Hid (cnt2 < cnt) := hlt
      have HRG := hid hrg
      clear hs2 hkey hlk hv hat hrg2 hlt hg2 ex ec ez hf hrg
      by_cases hcd : c = d
      · subst hcd
        go_wp2
        go_ret
        exact ⟨by rw [M.mem_name HM.out]; rfl, HB2.out⟩
      · have hq : (c == d) = false := by simpa using hcd
        go_wp2
        go_roundw
        case rel => exact ⟨_, cnt2, HR2.out, fun s h => by
          have := HL.out s h
          have hne : s ≠ x := by
            rintro rfl
            have := M.mem_find HM.out
            rw [h] at this; exact hcd (Option.some.inj this)
          exact left_step this hne, HB2.out⟩
        case measure => rw [HR2.out.left_eq, HRG.out.left_eq]; exact HLT.out
end Go.Proofs.YtapjjpjiggjlfaaDoor.B
