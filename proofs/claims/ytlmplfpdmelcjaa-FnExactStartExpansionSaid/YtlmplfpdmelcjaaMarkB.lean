/- The marks of bindings. -/
import Derived.Test.YtlmplfpdmelcjaaOwnB
import Derived.Test.YtlmplfpdmelcjaaMark
import Derived.Deep.RegionWith
namespace Go.Proofs.Ytlmplfpdmelcjaa
open Go.RowKit
set_option linter.unusedVariables false
set_option linter.unusedSimpArgs false
def Bd.marks (x : Bd) : Nat := x.scopes.length + 2
def Bd.marked (x : Bd) (k : Int) : Bd := ⟨mtext k, ramp (k + 1) x.scopes.length, k + 1 + x.scopes.length⟩
def marksB : List Bd → Nat
  | [] => 0
  | x :: r => x.marks + marksB r
def markedB : List Bd → Int → List Bd
  | [], _ => []
  | x :: r, k => x.marked k :: markedB r (k + x.marks)
theorem markedB_length : ∀ (l : List Bd) (k : Int), (markedB l k).length = l.length
  | [], _ => rfl
  | x :: r, k => by simp [markedB, markedB_length r]
theorem marksB_take_succ : ∀ (l : List Bd) (j : Nat) (h : j < l.length), marksB (l.take (j + 1)) = marksB (l.take j) + l[j].marks
  | x :: r, 0, _ => by simp [marksB]
  | x :: r, j + 1, h => by
    have := marksB_take_succ r j (by simpa using h)
    simp only [List.take_succ_cons, marksB, this, List.getElem_cons_succ, Nat.add_assoc]
theorem marksB_take_le : ∀ (l : List Bd) (j : Nat), marksB (l.take j) ≤ marksB l
  | l, 0 => by simp [marksB]
  | [], j + 1 => by simp
  | x :: r, j + 1 => by
    have := marksB_take_le r j
    simp only [List.take_succ_cons, marksB]
    omega
theorem markedB_take_succ : ∀ (l : List Bd) (k : Int) (j : Nat) (h : j < l.length), markedB (l.take (j + 1)) k = markedB (l.take j) k ++ [l[j].marked (k + marksB (l.take j))]
  | x :: r, k, 0, _ => by simp [markedB, marksB]
  | x :: r, k, j + 1, h => by
    have := markedB_take_succ r (k + x.marks) j (by simpa using h)
    simp only [List.take_succ_cons, markedB, this, List.getElem_cons_succ, List.cons_append, marksB]
    congr 4
    rw [Int.natCast_add, Int.add_assoc]
theorem markedB_at (l : List Bd) (k : Int) (j : Nat) (h : j < l.length) (h' : j < (markedB l k).length) : (markedB l k)[j] = l[j].marked (k + marksB (l.take j)) := by
  have h1 := markedB_take_succ l k j h
  have h2 : (markedB l k).take (j + 1) = markedB (l.take (j + 1)) k := (markedB_take l k (j + 1)).symm
  have h3 : ((markedB l k).take (j + 1))[j]? = some (markedB l k)[j] := by rw [List.getElem?_take_of_lt (by omega), List.getElem?_eq_getElem h']
  rw [h2, h1, List.getElem?_append_right (by rw [markedB_length, List.length_take]; omega)] at h3
  have e : j - (markedB (l.take j) k).length = 0 := by rw [markedB_length, List.length_take]; omega
  rw [e] at h3
  simpa using h3.symm
where
  markedB_take : ∀ (l : List Bd) (k : Int) (n : Nat), markedB (l.take n) k = (markedB l k).take n
    | [], _, n => by simp [markedB]
    | x :: r, k, 0 => by simp [markedB]
    | x :: r, k, n + 1 => by simp only [List.take_succ_cons, markedB, markedB_take r]
theorem marked_wf (x : Bd) (k : Int) (hk : 1 ≤ k) (hk2 : k + x.marks ≤ 1099511627776) : (x.marked k).wf := by
  have := mtext_size k
  unfold Bd.marks at hk2
  refine ⟨?_, ?_, ?_⟩
  · show (mtext k).size ≤ maxLen
    unfold maxLen; omega
  · show -9223372036854775808 ≤ k + 1 + (x.scopes.length : Int)
    omega
  · show k + 1 + (x.scopes.length : Int) ≤ 9223372036854775807
    omega
theorem markedB_wf : ∀ (l : List Bd) (k : Int), 1 ≤ k → k + marksB l ≤ 1099511627776 → ∀ x ∈ markedB l k, x.wf
  | [], _, _, _, x, hx => by cases hx
  | y :: r, k, hk, hk2, x, hx => by
    simp only [marksB] at hk2
    rcases List.mem_cons.1 hx with rfl | hx
    · exact marked_wf y k hk (by omega)
    · exact markedB_wf r (k + y.marks) (by omega) (by omega) x hx
/-- the first j of a list of bindings are marked -/
structure MarkB (w wr : World) (b off : Nat) (l : List Bd) (k : Int) (j : Nat) (bs : List Nat) : Prop where
  only : Only (b :: bs) w wr
  rows : ∃ bs1 bs2, bs = bs1 ++ bs2 ∧ BdRowOwn wr b off (markedB (l.take j) k) bs1 ∧ BdRowOwn wr b (off + j * 3) (l.drop j) bs2
set_option maxHeartbeats 2000000 in
theorem MarkB.step {w wr : World} {b off : Nat} {l : List Bd} {k : Int} {j : Nat} {bs : List Nat} (h : MarkB w wr b off l k j bs) (hj : j < l.length) (hnb : b ∉ bs) (hnd : bs.Nodup) (hlt : ∀ c ∈ b :: bs, c < w.heap.size) :
    ∃ sa scap bsx, wr.cell? ⟨b, off + j * 3, none⟩ = some (.string l[j].name) ∧ wr.cell? ⟨b, off + j * 3 + 1, none⟩ = some (.slice sa l[j].scopes.length scap) ∧ wr.cell? ⟨b, off + j * 3 + 2, none⟩ = some (.int .i64 l[j].id) ∧
      (∀ i, i < 3 → wr.frozen? ⟨b, off + j * 3 + i, none⟩ = false) ∧ (∀ c ∈ bsx, c ∈ bs) ∧
      ∀ (K : Int), K = k + marksB (l.take j) → ∀ W1, Below wr.heap.size wr W1 → IntOwn (W1.setCell ⟨b, off + j * 3, none⟩ (.string (mtext K))) (.slice sa l[j].scopes.length scap) l[j].scopes bsx ∧
        ∀ W2, Only bsx (W1.setCell ⟨b, off + j * 3, none⟩ (.string (mtext K))) W2 → IntOwn W2 (.slice sa l[j].scopes.length scap) (ramp (K + 1) l[j].scopes.length) bsx →
          (W2.cell? ⟨b, off + j * 3 + 2, none⟩ = some (.int .i64 l[j].id) ∧ W2.frozen? ⟨b, off + j * 3 + 2, none⟩ = false) ∧
          MarkB w (W2.setCell ⟨b, off + j * 3 + 2, none⟩ (.int .i64 (K + 1 + l[j].scopes.length))) b off l k (j + 1) bs := by
  obtain ⟨bs1, bs2, rfl, h1, h2⟩ := h.rows
  have hd : l.drop j = l[j] :: l.drop (j + 1) := List.drop_eq_getElem_cons hj
  rw [hd] at h2
  obtain ⟨bsx, bs3, rfl, hx, hr⟩ := h2
  obtain ⟨sa, scap, c0, c1, c2, hf, hi⟩ := hx
  have hsz := h.only.size
  obtain ⟨n1, n2, n3⟩ := List.nodup_append.1 hnd
  obtain ⟨n4, n5, n6⟩ := List.nodup_append.1 n2
  have hb : b < wr.heap.size := by have := hlt b (by simp); omega
  have hbx : b ∉ bsx := fun hm => hnb (List.mem_append_right _ (List.mem_append_left _ hm))
  have l1 : ∀ c ∈ bs1, c < wr.heap.size ∧ c ≠ b ∧ c ∉ bsx := fun c hc => ⟨by have := hlt c (List.mem_cons_of_mem _ (List.mem_append_left _ hc)); omega, fun e => hnb (List.mem_append_left _ (by rw [← e]; exact hc)), fun hm => n3 c hc c (List.mem_append_left _ hm) rfl⟩
  have lx : ∀ c ∈ bsx, c < wr.heap.size ∧ c ≠ b := fun c hc => ⟨by have := hlt c (List.mem_cons_of_mem _ (List.mem_append_right _ (List.mem_append_left _ hc))); omega, fun e => hbx (by rw [← e]; exact hc)⟩
  have l3 : ∀ c ∈ bs3, c < wr.heap.size ∧ c ≠ b ∧ c ∉ bsx := fun c hc => ⟨by have := hlt c (List.mem_cons_of_mem _ (List.mem_append_right _ (List.mem_append_right _ hc))); omega, fun e => hnb (List.mem_append_right _ (List.mem_append_right _ (by rw [← e]; exact hc))), fun hm => n6 c hm c hc rfl⟩
  refine ⟨sa, scap, bsx, c0, c1, c2, hf, fun c hc => List.mem_append_right _ (List.mem_append_left _ hc), fun K hK W1 hW1 => ?_⟩
  have hs1 := hW1.size
  have hz1 : (W1.setCell ⟨b, off + j * 3, none⟩ (.string (mtext K))).heap.size = W1.heap.size := by simp [World.setCell]
  have s1 : ∀ c, c < wr.heap.size → c ≠ b → (W1.setCell ⟨b, off + j * 3, none⟩ (.string (mtext K))).heap[c]? = wr.heap[c]? := fun c hc hne => (Below.heap_setCell _ _ _ _ hne).trans (hW1.block c hc)
  refine ⟨hi.later (fun c hc => s1 c (lx c hc).1 (lx c hc).2), fun W2 hO hI2 => ?_⟩
  have hsO := hO.size
  have s2 : ∀ c, c < wr.heap.size → c ∉ bsx → W2.heap[c]? = (W1.setCell ⟨b, off + j * 3, none⟩ (.string (mtext K))).heap[c]? := fun c hc hn => hO.block c (by rw [hz1]; omega) hn
  have cb : ∀ i, W2.cell? ⟨b, i, none⟩ = (W1.setCell ⟨b, off + j * 3, none⟩ (.string (mtext K))).cell? ⟨b, i, none⟩ := fun i => World.cell?_of_block (a := ⟨b, i, none⟩) (s2 b hb hbx)
  have fb : ∀ i, W2.frozen? ⟨b, i, none⟩ = wr.frozen? ⟨b, i, none⟩ := fun i => (World.frozen?_of_block (a := ⟨b, i, none⟩) (s2 b hb hbx)).trans ((World.frozen?_setCell _ _ _ _).trans (hW1.frozen (p := ⟨b, i, none⟩) hb))
  have cw : ∀ i, i ≠ off + j * 3 → W2.cell? ⟨b, i, none⟩ = wr.cell? ⟨b, i, none⟩ := fun i hi => (cb i).trans ((World.cell?_setCell_other _ _ _ _ (addr_ne (by omega))).trans (hW1.cell (p := ⟨b, i, none⟩) hb))
  refine ⟨⟨(cw _ (by omega)).trans c2, (fb _).trans (hf 2 (by omega))⟩, ?_⟩
  have s3 : ∀ c, c ≠ b → (W2.setCell ⟨b, off + j * 3 + 2, none⟩ (.int .i64 (K + 1 + l[j].scopes.length))).heap[c]? = W2.heap[c]? := fun c hne => Below.heap_setCell _ _ _ _ hne
  have c3 : ∀ i, i ≠ off + j * 3 → i ≠ off + j * 3 + 2 → (W2.setCell ⟨b, off + j * 3 + 2, none⟩ (.int .i64 (K + 1 + l[j].scopes.length))).cell? ⟨b, i, none⟩ = wr.cell? ⟨b, i, none⟩ := fun i h1 h2 => (World.cell?_setCell_other _ _ _ _ (addr_ne (Ne.symm h2))).trans (cw i h1)
  have f3 : ∀ i, (W2.setCell ⟨b, off + j * 3 + 2, none⟩ (.int .i64 (K + 1 + l[j].scopes.length))).frozen? ⟨b, i, none⟩ = wr.frozen? ⟨b, i, none⟩ := fun i => (World.frozen?_setCell _ _ _ _).trans (fb i)
  have hml : (markedB (l.take j) k).length = j := by rw [markedB_length, List.length_take]; omega
  have hrl : (ramp (K + 1) l[j].scopes.length).length = l[j].scopes.length := ramp_length _ _
  have g1 : BdRowOwn (W2.setCell ⟨b, off + j * 3 + 2, none⟩ (.int .i64 (K + 1 + l[j].scopes.length))) b off (markedB (l.take j) k) bs1 :=
    h1.upto (fun c hc => (s3 c (l1 c hc).2.1).trans ((s2 c (l1 c hc).1 (l1 c hc).2.2).trans (s1 c (l1 c hc).1 (l1 c hc).2.1))) (fun i ha hb' => ⟨c3 i (by rw [hml] at hb'; omega) (by rw [hml] at hb'; omega), f3 i⟩)
  have g3 : BdRowOwn (W2.setCell ⟨b, off + j * 3 + 2, none⟩ (.int .i64 (K + 1 + l[j].scopes.length))) b (off + j * 3 + 3) (l.drop (j + 1)) bs3 :=
    hr.upto (fun c hc => (s3 c (l3 c hc).2.1).trans ((s2 c (l3 c hc).1 (l3 c hc).2.2).trans (s1 c (l3 c hc).1 (l3 c hc).2.1))) (fun i ha hb' => ⟨c3 i (by omega) (by omega), f3 i⟩)
  have gx : BdOwn (W2.setCell ⟨b, off + j * 3 + 2, none⟩ (.int .i64 (K + 1 + l[j].scopes.length))) b (off + j * 3) (l[j].marked K) bsx := by
    refine ⟨sa, scap, ?_, ?_, ?_, fun i hi => (f3 _).trans (hf i hi), ?_⟩
    · refine (World.cell?_setCell_other _ _ _ _ (addr_ne (by omega))).trans ((cb _).trans ?_)
      exact World.cell?_setCell_same _ _ _ ((hW1.cell (p := ⟨b, off + j * 3, none⟩) hb).trans c0)
    · show _ = some (Value.slice sa (ramp (K + 1) l[j].scopes.length).length scap)
      rw [hrl]
      exact (c3 _ (by omega) (by omega)).trans c1
    · exact World.cell?_setCell_same _ _ _ ((cw _ (by omega)).trans c2)
    · show IntOwn _ (.slice sa (ramp (K + 1) l[j].scopes.length).length scap) (ramp (K + 1) l[j].scopes.length) bsx
      rw [hrl]
      exact hI2.later (fun c hc => s3 c (lx c hc).2)
  refine ⟨h.only.trans ?_, bs1 ++ bsx, bs3, by simp, ?_, ?_⟩
  · have o1 : Only (b :: (bs1 ++ (bsx ++ bs3))) wr (W1.setCell ⟨b, off + j * 3, none⟩ (.string (mtext K))) := (Only.of_below hW1).setCell b _ _ (by simp)
    have o2 : Only (b :: (bs1 ++ (bsx ++ bs3))) wr W2 := o1.trans (hO.mono fun c hc => List.mem_cons_of_mem _ (List.mem_append_right _ (List.mem_append_left _ hc)))
    exact o2.setCell b _ _ (by simp)
  · rw [markedB_take_succ l k j hj, ← hK]
    exact g1.snoc (by rw [hml]; exact gx)
  · rw [show off + (j + 1) * 3 = off + j * 3 + 3 by omega]
    exact g3
set_option maxRecDepth 100000 in
set_option maxHeartbeats 1000000 in
theorem markBindS_any (l : List Bd) (v : Value) (bs : List Nat) (k : Int) (w : World) (hv : BdsOwn w l v bs) (hnd : bs.Nodup) (hlt : ∀ c ∈ bs, c < w.heap.size) (hk : 1 ≤ k) (hk2 : k + marksB l ≤ 1099511627776) :
    Calls Try.prog 124 #[v, .int .i64 k] w fun e w' => e = .returned (.int .i64 (k + marksB l)) ∧ BdsOwn w' (markedB l k) v bs ∧ Only bs w w' := by
  obtain ⟨a, cap, rfl, hcap, hmax, hwf, hrow⟩ := hv
  have HCAP := Lib.hid hcap
  have HMAX := Lib.hid hmax
  have HWF2 := Lib.hid (markedB_wf l k hk hk2)
  unfold maxLen at hmax
  rcases hrow with ⟨rfl, rfl⟩ | ⟨b, off, bs3, rfl, rfl, hrow⟩
  · go_enter Try.func124, Try.ntmps124
    go_wp2_with fail
    go_loopw [1, 5] (fun m i wr => m = .int .i64 k ∧ i = .int .i64 0 ∧ wr = w) (fun _ _ _ => 0)
    case atStart => exact ⟨rfl, rfl, rfl⟩
    case round =>
      obtain ⟨rfl, rfl, rfl⟩ := hrel
      go_wp2_with fail
      go_ret
      exact ⟨ret_int (by simp [marksB]), ⟨a, cap, rfl, HCAP.out, HMAX.out, fun x hx => (by cases hx), .inl ⟨rfl, rfl⟩⟩, Only.refl _ _⟩
  · have hnb : b ∉ bs3 := (List.nodup_cons.1 hnd).1
    have hnd3 : bs3.Nodup := (List.nodup_cons.1 hnd).2
    have HST : Hid (MarkB w w b off l k 0 bs3) := ⟨Only.refl _ _, [], bs3, rfl, by simp [markedB, BdRowOwn], by simpa using hrow⟩
    have HNB := Lib.hid hnb
    have HND := Lib.hid hnd3
    have HLT := Lib.hid hlt
    have HK2 := Lib.hid hk2
    clear hnb hnd3 hnd hlt hrow hwf hcap
    go_enter Try.func124, Try.ntmps124
    go_wp2_with fail
    go_loopw [1, 5] (fun m i wr => ∃ j : Nat, j ≤ l.length ∧ i = .int .i64 j ∧ m = .int .i64 (k + marksB (l.take j)) ∧ MarkB w wr b off l k j bs3) (fun _ i _ => l.length - (intOf i).toNat)
    case atStart => exact ⟨0, Nat.zero_le _, rfl, by simp [marksB], HST.out⟩
    case round =>
      obtain ⟨j, hj, rfl, rfl, hm⟩ := hrel
      have HM := Lib.hid hm
      clear hm
      have hml := marksB_take_le l j
      by_cases hlt : j < l.length
      · obtain ⟨sa, scap, bsx, c0, c1, c2, hf, hbx, hall⟩ := HM.out.step hlt HNB.out HND.out HLT.out
        have HALL := Lib.hid hall
        have hf0 := hf 0 (by omega)
        have hf2 := hf 2 (by omega)
        rw [Nat.add_zero] at hf0
        have hbl : b < wr.heap.size := cell_lt c0
        have hts := marksB_take_succ l j hlt
        have hml2 := marksB_take_le l (j + 1)
        have hmd : l[j].marks = l[j].scopes.length + 2 := rfl
        have hB' : k + marksB (l.take j) + 1 + l[j].scopes.length + 1 ≤ 1099511627776 := by omega
        have HTS : Hid (k + marksB (l.take (j + 1)) = k + marksB (l.take j) + 1 + l[j].scopes.length + 1) := by unfold Hid; omega
        have hjm : (j : Int) + 1 ≤ 9223372036854775807 := by have := HCAP.out; omega
        have hjI : (j : Int) < (l.length : Int) := by omega
        have hj0 : (0 : Int) ≤ (j : Int) := by omega
        clear hall hf hts hml2 hmd hbx
        go_wp2_with fail
        refine (markText_any (k + marksB (l.take j)) _ (by omega) (by omega)).mono ?_
        rintro e W1 ⟨rfl, hb1⟩
        have d0 := (hb1.cell (p := ⟨b, off + j * 3, none⟩) hbl).trans c0
        have d1 := (hb1.cell (p := ⟨b, off + j * 3 + 1, none⟩) hbl).trans c1
        have e0 := (hb1.frozen (p := ⟨b, off + j * 3, none⟩) hbl).trans hf0
        have HA1 := Lib.hid (HALL.out _ rfl W1 hb1)
        have d1' : (W1.setCell ⟨b, off + j * 3, none⟩ (.string (mtext (k + marksB (l.take j))))).cell? ⟨b, off + j * 3 + 1, none⟩ = some (.slice sa l[j].scopes.length scap) := (World.cell?_setCell_other _ _ _ _ (addr_ne (by omega))).trans d1
        clear hb1 c0 c1 c2 hf0 hf2 d1
        go_wp2_with fail
        obtain ⟨hI1, hall2⟩ := HA1.out
        have HA2 := Lib.hid hall2
        clear hall2
        refine (markIntS_any _ _ _ _ _ hI1 (by omega) (by omega)).mono ?_
        rintro e W2 ⟨rfl, hI2, hO2⟩
        obtain ⟨⟨g2, g3⟩, hm2⟩ := HA2.out W2 hO2 hI2
        have HM2 := Lib.hid hm2
        clear hI1 hI2 hO2 hm2 d0 d1' e0
        go_wp2_with fail
        go_roundw
        case rel => exact ⟨j + 1, by omega, by go_num, by rw [HTS.out], HM2.out⟩
        case measure => simp [intOf]; omega
      · obtain rfl : j = l.length := by omega
        obtain ⟨bs1, bs2, he, h1, h2⟩ := HM.out.rows
        have HO := Lib.hid HM.out.only
        rw [List.take_length] at h1
        rw [List.drop_length] at h2
        have h2 : bs2 = [] := h2
        subst h2
        rw [List.append_nil] at he
        subst he
        have H1 := Lib.hid h1
        have HZ := Lib.hid (List.take_length (l := l))
        clear h1
        go_wp2_with fail
        go_ret
        refine ⟨by first | rfl | (rw [HZ.out]; rfl), ⟨some ⟨b, off, none⟩, cap, by rw [markedB_length], by rw [markedB_length]; exact HCAP.out, HMAX.out, HWF2.out, .inr ⟨b, off, _, rfl, rfl, H1.out⟩⟩, HO.out⟩
set_option maxRecDepth 100000 in
set_option maxHeartbeats 1000000 in
theorem heldBindS_any (B : Nat) (l : List Bd) (v : Value) (k : Int) (w : World) (hB : B ≤ w.heap.size) (hv : BdRow (· < B) w v (markedB l k)) (hk : 1 ≤ k) (hk2 : k + marksB l ≤ 1099511627776) :
    Calls Try.prog 126 #[v, .int .i64 k] w fun e w' => e = .returned (.int .i64 (k + marksB l)) ∧ Below w.heap.size w w' := by
  obtain ⟨a, cap, rfl, hcap, hmax, hwf, hrow⟩ := hv
  rw [markedB_length] at hcap ⊢
  have HROW : Hid (l = [] ∨ ∃ b off, a = some ⟨b, off, none⟩ ∧ b < B ∧ ∀ i, (h : i < l.length) → ∃ sa scap, w.cell? ⟨b, off + i * 3, none⟩ = some (.string (mtext (k + marksB (l.take i)))) ∧
      w.cell? ⟨b, off + i * 3 + 1, none⟩ = some (.slice sa l[i].scopes.length scap) ∧ w.cell? ⟨b, off + i * 3 + 2, none⟩ = some (.int .i64 (k + marksB (l.take i) + 1 + l[i].scopes.length)) ∧ IntRow (· < B) w (.slice sa l[i].scopes.length scap) (ramp (k + marksB (l.take i) + 1) l[i].scopes.length)) := by
    rcases hrow with h | ⟨b, off, rfl, hb, h⟩
    · left
      have := markedB_length l k
      rw [h] at this
      exact List.length_eq_zero_iff.1 this.symm
    · refine .inr ⟨b, off, rfl, hb, fun i hi => ?_⟩
      have hi' : i < (markedB l k).length := by rw [markedB_length]; exact hi
      obtain ⟨sa, scap, c0, c1, c2, hr⟩ := h i hi'
      rw [markedB_at l k i hi hi'] at c0 c1 c2 hr
      have hrl : (ramp (k + marksB (l.take i) + 1) l[i].scopes.length).length = l[i].scopes.length := ramp_length _ _
      have c1 : w.cell? ⟨b, off + i * 3 + 1, none⟩ = some (.slice sa (ramp (k + marksB (l.take i) + 1) l[i].scopes.length).length scap) := c1
      have hr : IntRow (· < B) w (.slice sa (ramp (k + marksB (l.take i) + 1) l[i].scopes.length).length scap) (ramp (k + marksB (l.take i) + 1) l[i].scopes.length) := hr
      rw [hrl] at c1 hr
      exact ⟨sa, scap, c0, c1, c2, hr⟩
  clear hrow hwf
  unfold maxLen at hmax
  go_enter Try.func126, Try.ntmps126
  go_wp2_with fail
  go_loopw [1, 5] (fun m i wr => ∃ j : Nat, j ≤ l.length ∧ i = .int .i64 j ∧ m = .int .i64 (k + marksB (l.take j)) ∧ Below w.heap.size w wr) (fun _ i _ => l.length - (intOf i).toNat)
  case atStart => exact ⟨0, Nat.zero_le _, rfl, by simp [marksB], Below.refl _ _⟩
  case round =>
    obtain ⟨j, hj, rfl, rfl, hb⟩ := hrel
    have HBW := Lib.hid hb
    have hsz := hb.size
    have hml := marksB_take_le l j
    by_cases hlt : j < l.length
    · rcases HROW.out with h0 | ⟨b, off, rfl, hbB, hcells⟩
      · exfalso; rw [h0] at hlt; simp at hlt
      · obtain ⟨sa, scap, c0, c1, c2, hr⟩ := hcells j hlt
        have c0 := cell_later' hb c0
        have c1 := cell_later' hb c1
        have c2 := cell_later' hb c2
        have hr := hr.later (same_below (hb.mono hB))
        have hts := marksB_take_succ l j hlt
        have hml2 := marksB_take_le l (j + 1)
        have hmd : l[j].marks = l[j].scopes.length + 2 := rfl
        have HTS : Hid (k + marksB (l.take (j + 1)) = k + marksB (l.take j) + 1 + l[j].scopes.length + 1) := by unfold Hid; omega
        have HR := Lib.hid hr
        obtain ⟨K, hK⟩ : ∃ K, k + marksB (l.take j) = K := ⟨_, rfl⟩
        have hK1 : 1 ≤ K := by omega
        have hK2 : K + 1 + l[j].scopes.length + 1 ≤ 1099511627776 := by omega
        rw [hK] at c0 c2 ⊢
        have HKE := Lib.hid hK
        have hjI : (j : Int) < (l.length : Int) := by omega
        have hj0 : (0 : Int) ≤ (j : Int) := by omega
        have hself : ((mtext K).toList != (mtext K).toList) = false := by simp
        have hself2 : ((K + 1 + (l[j].scopes.length : Int)) != (K + 1 + (l[j].scopes.length : Int))) = false := by simp
        have hbl : b < wr.heap.size := by omega
        clear hcells hr hts hml2 hmd hK hb
        go_wp2_with fail
        go_region_with (go_at_call 83; refine (markText_any K wr.drew (by omega) (by omega)).mono ?_; rintro e w1 ⟨rfl, hb1⟩; have hb1' : Below wr.heap.size wr w1 := ((Below.refl wr.heap.size wr).drew).trans hb1; have d0 := cell_later' hb1' c0; have d1 := cell_later' hb1' c1; have d2 := cell_later' hb1' c2; have HB1 := Lib.hid hb1'; have hs1 := hb1'.size; clear hb1 hb1')
        all_goals
          clear c0 c1 c2 d0
          go_wp2_with fail
          refine (heldIntS_any (· < B) l[j].scopes.length _ _ _ (by rw [HKE.out] at HR; exact HR.out.later (same_below (HB1.out.mono (by omega)))) (by omega) (by omega)).mono ?_
          rintro e w' ⟨rfl, rfl⟩
          have hpos : 0 ≤ K + 1 + (l[j].scopes.length : Int) := by omega
          go_wp2_with fail
          go_roundw
          case rel => exact ⟨j + 1, by omega, by go_num, by rw [HTS.out, HKE.out], HBW.out.trans (HB1.out.mono (by omega))⟩
          case measure => simp [intOf]; omega
    · obtain rfl : j = l.length := by omega
      have HZ := Lib.hid (List.take_length (l := l))
      clear hb
      go_wp2_with fail
      go_ret
      exact ⟨by first | rfl | (rw [HZ.out]; rfl), HBW.out⟩
end Go.Proofs.Ytlmplfpdmelcjaa
