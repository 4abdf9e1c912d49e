/-
  A record's bytes, as walks over the Go text: record.Print and the reference's.
-/
import Derived.Test.YtgdgigldodbpeaaDoorRecCells
import Derived.Laws.BytesString
import Derived.Laws.IdiomStrings
import Derived.Deep.AppendLies
namespace Go.Proofs.YtgdgigldodbpeaaDoor.B
open Go.ChangeShapes Go.WideShapes Go.ChangeAt Go.RowKit
set_option linter.unusedVariables false

theorem info5 : (Tryd.prog.info? 5).map (fun i => (i.zero, i.size, i.bytes)) = some (some (.int .u8 0), 1, 1) := by kernel_rfl
def u8s (l : List Int) : List Value := l.map (Value.int .u8)
theorem u8s_append (a b : List Int) : u8s (a ++ b) = u8s a ++ u8s b := by simp [u8s]
theorem below_own1 {w w1 : World} {base : Nat} {e : TypeId} {size : Nat} {v : Value} {n : Nat} {xs : List Value} (hown : w.ownsRow base e size v n xs) (hb : base ≤ w.heap.size) {o1 : Obj} (hg : (w.alloc o1).grownBy w1 v.ownBlock) : Below base w w1 :=
  ((Below.refl base w).alloc hb o1).grown hg (by simp; omega) (fun k hk => (hown.lt k hk).1)
theorem news1 (w : World) (cs : Array Value) {t : TypeId} {l : List Value} (h : cs.toList = l) :
    ∀ (j : Nat) (u : Value), l[j]? = some u → (w.alloc (Obj.cells cs t)).cell? ((⟨w.heap.size, 0, none⟩ : Addr).add j) = some u := by
  subst h
  exact World.news_of_block (fr := (0, 0)) (t := t) (heap_alloc_new w (Obj.cells cs t))
theorem conv_own {W : World} {base g n cap : Nat} {ns : List Int} (h : W.ownsRow base 5 1 (.slice (some ⟨g, 0, none⟩) n cap) n (u8s ns)) :
    (convert 57 9 (.slice (some ⟨g, 0, none⟩) n cap)).run Tryd.prog W = .ok (.string (M.str ns)) W := by
  rw [run_convert_bytes_string W 57 9 5 (some ⟨g, 0, none⟩) n cap Tryd.underlying57 Tryd.underlying5 Tryd.underlying9]
  have hl : (u8s ns).length = n := by have := h.1; omega
  have hr := run_loadCells_list (P := Tryd.prog) (w := W) ⟨g, 0, none⟩ (u8s ns) (h.cells rfl)
  rw [hl] at hr
  exact run_bytesToString W ⟨g, 0, none⟩ n cap ns hr
theorem make8 (cap : Nat) (h : cap ≤ 65536) : ∃ cs : Array Value, cs.size = cap ∧ ∀ W : World, (Instr.makeSlice 57 (.int .i64 0) (.int .i64 (cap : Int))).run Tryd.prog W = .ok (.slice (some ⟨W.heap.size, 0, none⟩) 0 cap) (W.alloc (.cells cs 5)) := by
  obtain ⟨i0, hi, hz0, hz1, hz2⟩ := info_parts info5
  refine ⟨madeCells #[.int .u8 0] cap, size_madeCells _ _, fun W => ?_⟩
  have := run_make (P := Tryd.prog) W 57 5 i0 (.int .u8 0) Tryd.underlying57 hi hz0 .i64 .i64 0 (cap : Int) (by omega) (by omega) (by rw [hz2]; omega) (by omega)
  rw [this, hz1]; simp [Value.cells]
theorem own_form {w : World} {base : Nat} {e : TypeId} {size : Nat} {v : Value} {n : Nat} {xs : List Value} (h : w.ownsRow base e size v n xs) (hn : 0 < n) : ∃ g cap, v = .slice (some ⟨g, 0, none⟩) n cap := by
  rcases h.2 with ⟨h', h0⟩ | ⟨g, cap, cur, h', _⟩
  · omega
  · exact ⟨g, cap, h'⟩

set_option maxHeartbeats 1600000 in
set_option maxRecDepth 1000000 in
theorem print_any (l : List Int) (ok : M.okR l) (w : World) :
    Calls Tryd.prog 24 #[.agg (enc l)] w fun e w' => e = .returned (.string (M.str (M.pr l))) ∧ Below w.heap.size w w' := by
  obtain ⟨i0, hi, hz0, hz1, hz2⟩ := info_parts info5
  obtain ⟨cs, hcs, hmk⟩ := make8 64 (by omega)
  have hmk : ∀ W : World, (Instr.makeSlice 57 (.int .i64 0) (.int .i64 64)).run Tryd.prog W = .ok (.slice (some ⟨W.heap.size, 0, none⟩) 0 64) (W.alloc (.cells cs 5)) := hmk
  have hR : Rec ((w.alloc (.cells (enc l) 24)).alloc (.cells cs 5)) w.heap.size l := (Rec.new w l ok.1).alloc _
  have hld := hR.load
  have hX := lcf_eq
  have hown0 : ((w.alloc (.cells (enc l) 24)).alloc (.cells cs 5)).ownsRow w.heap.size 5 1 (.slice (some ⟨w.heap.size + 1, 0, none⟩) 0 64) 0 [] := by
    have := World.ownsRow_made (base := w.heap.size) (e := 5) (size := 1) (w.alloc (.cells (enc l) 24)) cs 64 (by simp) (by unfold maxLen; omega) (by omega)
    simpa using this
  have HW : Hid (((w.alloc (.cells (enc l) 24)).alloc (.cells cs 5)).ownsRow w.heap.size 5 1 (.slice (some ⟨w.heap.size + 1, 0, none⟩) 0 64) 0 [] ∧ Below w.heap.size w ((w.alloc (.cells (enc l) 24)).alloc (.cells cs 5))) := ⟨hown0, ((Below.refl _ _).alloc (Nat.le_refl _) _).alloc (by simp) _⟩
  have HI : Hid (∀ k : Nat, k < 16 → ∀ W, (Instr.index 24 (.agg (enc l)) (.int .i64 (k : Int))).run Tryd.prog W = .ok (.int .u32 (M.at_ l k)) W) := fun k hk W => index24 ok.1 k hk W
  have HS : Hid (∀ k, k < 16 → u8s (M.pr (l.take (k + 1))) = u8s (M.pr (l.take k)) ++ u8s (M.bytes (M.at_ l k))) := fun k hk => by rw [M.pr_take l k (by rw [ok.1]; exact hk), u8s_append]
  have HT : Hid (l.take 16 = l) := by rw [← ok.1, List.take_length]; trivial
  have HA : Hid (∀ k, 0 ≤ M.at_ l k ∧ M.at_ l k < 4294967296) := M.at_bd ok
  clear hown0 hR ok
  go_enter Tryd.func24, Tryd.ntmps24
  go_wp2
  clear hmk hld
  go_loopw [3, 8] (fun v i wr => ∃ k : Nat, k ≤ 16 ∧ i = .int .i64 k ∧ wr.ownsRow w.heap.size 5 1 v (4 * k) (u8s (M.pr (l.take k))) ∧ Below w.heap.size w wr)
    (fun _ i _ => 16 - (intOf i).toNat)
  case atStart => exact ⟨0, Nat.zero_le _, rfl, HW.out.1, HW.out.2⟩
  case round =>
    obtain ⟨k, hk, rfl, hown, hnx⟩ := hrel
    by_cases hlt : k < 16
    · have hg := HI.out k hlt
      have hS := HS.out k hlt
      have hb := HA.out k
      have hsz := hnx.size
      have i1 : (k : Int) < 16 := by omega
      have HH : Hid (u8s (M.pr (l.take (k + 1))) = u8s (M.pr (l.take k)) ++ u8s (M.bytes (M.at_ l k))) := hS
      generalize M.at_ l k = x at *
      clear hS HS HI HA HW HT hcs
      go_wp2_with (at_builtin; refine wpList_append_lies _ rfl _ _ 57 rfl w.heap.size 5 i0 (.int .u8 0) 1 1 Tryd.underlying57 hi hz0 hz1 hz2 rfl (by decide) _ (4 * k) _ rfl (hown.alloc _) ⟨wr.heap.size, 0, none⟩ 4 4 (u8s (M.bytes x)) rfl rfl ?c1 ?c2 (by decide) ?c3 ?c4 ?c5 (wr.heap.size + 1) ?c6 ?_)
      case c1 => exact news1 wr _ (by simp [u8s, M.bytes]; omega)
      case c2 => intro u hu; obtain ⟨x, _, rfl⟩ := List.mem_map.1 hu; rfl
      case c3 => unfold maxLen; omega
      case c4 => omega
      case c5 => simp; omega
      case c6 => simp
      · intro g cap w1 hown1 hgrow hat hlt1
        have hB := below_own1 hown hsz hgrow
        rw [← HH.out] at hown1
        have hB1 : Below w.heap.size w w1 := hnx.trans hB
        have HH : Hid (w1.ownsRow w.heap.size 5 1 (.slice (some ⟨g, 0, none⟩) (4 * k + 4) cap) (4 * (k + 1)) (u8s (M.pr (l.take (k + 1)))) ∧ Below w.heap.size w w1) := ⟨hown1, hB1⟩
        clear hown hgrow hown1 hB hB1 hnx
        go_wp2
        go_roundw
        case rel => exact ⟨k + 1, by omega, by go_num, HH.out.1, HH.out.2⟩
        case measure => simp [intOf]; omega
    · obtain rfl : k = 16 := by omega
      rw [HT.out] at hown
      obtain ⟨g, cap, hv⟩ := own_form hown (by omega)
      rw [hv] at hown ⊢
      have hcv := conv_own hown
      clear hown HI HS HT HA HW
      go_wp2
      go_ret
      exact ⟨rfl, hnx⟩

/-- what is left of a word behind k bytes -/
def left_ (x : Int) (k : Nat) : Int := x / (256 ^ k : Nat)
theorem left_zero (x : Int) : left_ x 0 = x := by simp [left_]
theorem left_succ (x : Int) (k : Nat) : left_ x k / 256 = left_ x (k + 1) := by
  unfold left_
  have h : (0 : Int) ≤ ((256 ^ k : Nat) : Int) := Int.natCast_nonneg _
  rw [Int.ediv_ediv_of_nonneg h, Nat.pow_succ]
  rfl
theorem left_bd (x : Int) (h : 0 ≤ x ∧ x < 4294967296) (k : Nat) : 0 ≤ left_ x k ∧ left_ x k < 4294967296 := by
  induction k with
  | zero => rw [left_zero]; exact h
  | succ k ih => rw [← left_succ]; omega
theorem bytes_left (x : Int) (k : Nat) (h : k < 4) : (M.bytes x)[k]? = some (left_ x k % 256) := by
  match k, h with
  | 0, _ => simp [M.bytes, left_]
  | 1, _ => simp [M.bytes, left_]
  | 2, _ => simp [M.bytes, left_]
  | 3, _ => simp [M.bytes, left_]
theorem bytes_take (x : Int) (k : Nat) (h : k < 4) : (M.bytes x).take (k + 1) = (M.bytes x).take k ++ [left_ x k % 256] := by
  rw [List.take_add_one, bytes_left x k h]; rfl

set_option maxHeartbeats 1600000 in
set_option maxRecDepth 1000000 in
theorem rprint_any (l : List Int) (ok : M.okR l) (w : World) :
    Calls Tryd.prog 25 #[.agg (enc l)] w fun e w' => e = .returned (.string (M.str (M.pr l))) ∧ Below w.heap.size w w' := by
  obtain ⟨i0, hi, hz0, hz1, hz2⟩ := info_parts info5
  have HR : Hid (Rec (w.alloc (.cells (enc l) 24)) w.heap.size l ∧ Below w.heap.size w (w.alloc (.cells (enc l) 24))) := ⟨Rec.new w l ok.1, (Below.refl _ _).alloc (Nat.le_refl _) _⟩
  have HS : Hid (∀ k, k < 16 → u8s (M.pr (l.take (k + 1))) = u8s (M.pr (l.take k)) ++ u8s (M.bytes (M.at_ l k))) := fun k hk => by rw [M.pr_take l k (by rw [ok.1]; exact hk), u8s_append]
  have HT : Hid (l.take 16 = l) := by rw [← ok.1, List.take_length]; trivial
  have HA : Hid (∀ k, 0 ≤ M.at_ l k ∧ M.at_ l k < 4294967296) := M.at_bd ok
  clear ok
  go_enter Tryd.func25, Tryd.ntmps25
  go_wp2
  go_loopw [3, 4] (fun v i wr => ∃ k : Nat, k ≤ 16 ∧ i = .int .i64 k ∧ wr.ownsRow (w.heap.size + 1) 5 1 v (4 * k) (u8s (M.pr (l.take k))) ∧ Below w.heap.size w wr ∧ Rec wr w.heap.size l ∧ w.heap.size + 1 ≤ wr.heap.size)
    (fun _ i _ => 16 - (intOf i).toNat)
  case atStart => exact ⟨0, Nat.zero_le _, rfl, ⟨rfl, Or.inl ⟨rfl, rfl⟩⟩, HR.out.2, HR.out.1, by simp⟩
  case round =>
    obtain ⟨k, hk, rfl, hown, hnx, hrec, hsz⟩ := hrel
    by_cases hlt : k < 16
    · have hg := hrec.cell k hlt
      have hS := HS.out k hlt
      have hb := HA.out k
      have i1 : (k : Int) < 16 := by omega
      have HH : Hid (u8s (M.pr (l.take (k + 1))) = u8s (M.pr (l.take k)) ++ u8s (M.bytes (M.at_ l k))) := hS
      have HRR : Hid (Rec wr w.heap.size l ∧ Below w.heap.size w wr ∧ w.heap.size + 1 ≤ wr.heap.size) := ⟨hrec, hnx, hsz⟩
      have HO : Hid (wr.ownsRow (w.heap.size + 1) 5 1 u3 (4 * k) (u8s (M.pr (l.take k)))) := hown
      generalize M.at_ l k = x at *
      have HB : Hid (0 ≤ x ∧ x < 4294967296) := hb
      clear hS HS HA HR HT hrec hnx hown hsz hb
      go_wp2
      go_loopw [3, 5, 6] (fun v n i wq => ∃ j : Nat, j ≤ 4 ∧ i = .int .i64 j ∧ n = .int .u32 (left_ x j) ∧ wq.ownsRow (w.heap.size + 1) 5 1 v (4 * k + j) (u8s (M.pr (l.take k)) ++ u8s ((M.bytes x).take j)) ∧ Below w.heap.size w wq ∧ Rec wq w.heap.size l ∧ w.heap.size + 1 ≤ wq.heap.size)
        (fun _ _ i _ => 4 - (intOf i).toNat)
      case atStart => exact ⟨0, Nat.zero_le _, rfl, by rw [left_zero], by simpa [u8s] using HO.out, HRR.out.2.1, HRR.out.1, HRR.out.2.2⟩
      case round =>
        obtain ⟨j, hj, rfl, rfl, hown, hnx, hrec, hsz⟩ := hrel
        by_cases hlt2 : j < 4
        · have i2 : (j : Int) < 4 := by omega
          have b1 := left_bd x HB.out j
          have hd := left_succ x j
          have HE : Hid (u8s (M.pr (l.take k)) ++ u8s ((M.bytes x).take (j + 1)) = u8s (M.pr (l.take k)) ++ u8s ((M.bytes x).take j) ++ u8s [left_ x j % 256]) := by
            show _ = _
            rw [bytes_take x j hlt2, u8s_append, List.append_assoc]
          generalize left_ x j = y at *
          obtain ⟨z, hz⟩ : ∃ z, z = left_ x (j + 1) := ⟨_, rfl⟩
          rw [← hz] at hd
          have HZ : Hid (z = left_ x (j + 1)) := hz
          clear hz
          clear HO HRR HH hg
          go_wp2_with (at_builtin; refine wpList_append_lies _ rfl _ _ 57 rfl (w.heap.size + 1) 5 i0 (.int .u8 0) 1 1 Tryd.underlying57 hi hz0 hz1 hz2 rfl (by decide) _ (4 * k + j) _ rfl (hown.alloc _) ⟨wr.heap.size, 0, none⟩ 1 1 (u8s [y % 256]) rfl rfl ?c1 ?c2 (by decide) ?c3 ?c4 ?c5 (wr.heap.size + 1) ?c6 ?_)
          case c1 => exact news1 wr _ rfl
          case c2 => intro u hu; obtain ⟨x, _, rfl⟩ := List.mem_map.1 hu; rfl
          case c3 => unfold maxLen; omega
          case c4 => omega
          case c5 => simp; omega
          case c6 => simp
          · intro g cap w1 hown1 hgrow hat hlt1
            have hB := below_own1 hown hsz hgrow
            have hown1 : w1.ownsRow (w.heap.size + 1) 5 1 (.slice (some ⟨g, 0, none⟩) (4 * k + j + 1) cap) (4 * k + (j + 1)) (u8s (M.pr (l.take k)) ++ u8s ((M.bytes x).take (j + 1))) := by
              have h := HE.out
              rw [h, List.append_assoc]
              exact hown1
            have hB1 : Below w.heap.size w w1 := hnx.trans (hB.mono (by omega))
            have HH : Hid (w1.ownsRow (w.heap.size + 1) 5 1 (.slice (some ⟨g, 0, none⟩) (4 * k + j + 1) cap) (4 * k + (j + 1)) (u8s (M.pr (l.take k)) ++ u8s ((M.bytes x).take (j + 1))) ∧ Below w.heap.size w w1 ∧ Rec w1 w.heap.size l ∧ w.heap.size + 1 ≤ w1.heap.size) := ⟨hown1, hB1, hrec.below hB (by omega), Nat.le_trans hsz hB.size⟩
            clear hown hgrow hown1 hB hB1 hnx hrec
            go_wp2
            go_roundw
            case rel => exact ⟨j + 1, by omega, by go_num, by rw [← HZ.out, ← hd], HH.out.1, HH.out.2.1, HH.out.2.2.1, HH.out.2.2.2⟩
            case measure => simp [intOf]; omega
        · obtain rfl : j = 4 := by omega
          have HE : Hid (wr.ownsRow (w.heap.size + 1) 5 1 u3 (4 * (k + 1)) (u8s (M.pr (l.take (k + 1))))) := by
            have h := HH.out
            rw [h]
            exact hown
          have HRR : Hid (Rec wr w.heap.size l ∧ Below w.heap.size w wr ∧ w.heap.size + 1 ≤ wr.heap.size) := ⟨hrec, hnx, hsz⟩
          clear hown HH hrec hnx hsz HO hg
          go_wp2
          go_roundw
          case rel => exact ⟨k + 1, by omega, by go_num, HE.out, HRR.out.2.1, HRR.out.1, HRR.out.2.2⟩
          case measure => simp [intOf]; omega
    · obtain rfl : k = 16 := by omega
      rw [HT.out] at hown
      obtain ⟨g, cap, hv⟩ := own_form hown (by omega)
      rw [hv] at hown ⊢
      have hcv := conv_own hown
      clear hown HS HT HA HR hrec
      go_wp2
      go_ret
      exact ⟨rfl, hnx⟩
end Go.Proofs.YtgdgigldodbpeaaDoor.B
