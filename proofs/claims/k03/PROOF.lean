import PyProof.Rows.All
import Wide.All
import OpenK.AllK
import Wide.FinOn
import HandS.ForMost
import HandS.Flow
import HandS.Style
import HandS.Wide
import HandS.IsInst
import HandS.Property
import HandS.Defaults
import HandS.HeadHook2
import HandS.HeadNt
import HandS.MakeKw
import HandS.Walk
import PyProof.InstNe
import KE.GoesEnumKw
import HandS.Iter
import HandS.Flt
import HandS.TryOnly
import PySem.Challenge.RW_evenbits_k03_plans_joined_and_parted
import KE.KEqDeep
import HandS.Evl
import Lean
import KE.KStateDown
import HandS.Head0
import HandS.Head1
import HandS.Head2
import HandS.HeadEnd
set_option Elab.async false
set_option linter.all false
set_option maxRecDepth 100000
set_option maxHeartbeats 4000000
namespace Ev
open PySem PySem.Spec PyProof.Rows L2
/-! ## what is known of the abstract heap -/
def Fr (J : List Addr) (H H' : Hp) : Prop := ∀ a o, a ∉ J → H a = some o → H' a = some o
theorem Fr.refl {J : List Addr} (H : Hp) : Fr J H H := fun _ _ _ h => h
theorem Fr.trans {J : List Addr} {H H1 H2 : Hp} (a : Fr J H H1) (b : Fr J H1 H2) : Fr J H H2 := fun x o hx h => b x o hx (a x o hx h)
theorem Fr.up {J J' : List Addr} {H H1 : Hp} (a : Fr J H H1) (s : ∀ x, x ∈ J → x ∈ J') : Fr J' H H1 := fun x o hx h => a x o (fun z => hx (s x z)) h
theorem Fr.up0 {J : List Addr} {H H1 : Hp} (a : Fr [] H H1) : Fr J H H1 := a.up fun _ z => nomatch z
theorem Fr.new {J : List Addr} {H H1 : Hp} {p : Addr} {o : HO} (a : Fr J H H1) (hp : H1 p = none) : Fr J H (upd H1 p o) := fun x u hx h => by
  have h1 := a x u hx h
  rw [upd_ne (ne_of_none h1 hp)]
  exact h1
theorem Fr.get {J : List Addr} {H H1 : Hp} (a : Fr J H H1) {x : Addr} {o : HO} (h : H x = some o) (hx : x ∉ J) : H1 x = some o := a x o hx h
theorem Fr.sql {J : List Addr} {K : PySem.W.Frag} {H H1 : Hp} (a : Fr J H H1) {x : Addr} {xs : List V} (h : SqL K H x xs) (hx : x ∉ J) : SqL K H1 x xs := by
  rcases h with (h | ⟨o, h⟩) | h
  · exact .inl (.inl (a x _ hx h))
  · exact .inl (.inr ⟨o, a x _ hx h⟩)
  · exact .inr h
theorem Fr.sqt {J : List Addr} {K : PySem.W.Frag} {H H1 : Hp} (a : Fr J H H1) {x : Addr} {xs : List V} (h : SqT K H x xs) (hx : x ∉ J) : SqT K H1 x xs := by
  rcases h with (h | ⟨o, h⟩) | h
  · exact .inl (.inl (a x _ hx h))
  · exact .inl (.inr ⟨o, a x _ hx h⟩)
  · exact .inr h
/-- the addresses of a list of entries -/
def HL (H : Hp) (N : List (Addr × HO)) : Prop := (N.map (·.1)).Nodup ∧ ∀ q ∈ N, H q.1 = some q.2
def New (H H' : Hp) (N : List (Addr × HO)) : Prop := HL H' N ∧ ∀ q ∈ N, H q.1 = none
abbrev En := Nat × Addr × HO
/-- entries: 0 stood at the entry and stays, 1 stood at the entry and may change, 2 is new -/
structure Z (H0 H : Hp) (E : List En) : Prop where
  nd : (E.map (·.2.1)).Nodup
  at_ : ∀ q ∈ E, H q.2.1 = some q.2.2
  fresh : ∀ q ∈ E, q.1 = 2 → H0 q.2.1 = none
  fr : ∀ a o, (∀ q ∈ E, q.1 = 1 → q.2.1 ≠ a) → H0 a = some o → H a = some o
section
variable {H0 H H' : Hp} {E : List En}
theorem Z.get (z : Z H0 H E) {t : Nat} {a : Addr} {o : HO} (h : (t, a, o) ∈ E) : H a = some o := z.at_ _ h
theorem Z.start0 (H : Hp) : Z H H [] := ⟨List.nodup_nil, (fun _ h => nomatch h), (fun _ h => nomatch h), fun _ _ _ h => h⟩
theorem Z.old (z : Z H0 H E) {a : Addr} {o : HO} (t : Nat) (ht : t ≠ 2) (h : H a = some o) (hn : ∀ q ∈ E, q.2.1 ≠ a) : Z H0 H ((t, a, o) :: E) :=
  ⟨by
    rw [List.map_cons, List.nodup_cons]
    refine ⟨fun m => ?_, z.nd⟩
    obtain ⟨q, hq, e⟩ := List.mem_map.mp m
    exact hn q hq e,
  fun q hq => by
    rcases List.mem_cons.mp hq with rfl | hq
    · exact h
    · exact z.at_ q hq,
  fun q hq e => by
    rcases List.mem_cons.mp hq with rfl | hq
    · exact absurd e ht
    · exact z.fresh q hq e,
  fun b u hb h' => z.fr b u (fun q hq => hb q (List.mem_cons_of_mem _ hq)) h'⟩
theorem Z.new (z : Z H0 H E) {p : Addr} {o : HO} (hp : H p = none) (h0 : H0 p = none) : Z H0 (upd H p o) ((2, p, o) :: E) := by
  have hn : ∀ q ∈ E, q.2.1 ≠ p := fun q hq => ne_of_none (z.at_ q hq) hp
  refine ⟨?_, fun q hq => ?_, fun q hq e => ?_, fun b u hb h' => ?_⟩
  · rw [List.map_cons, List.nodup_cons]
    refine ⟨fun m => ?_, z.nd⟩
    obtain ⟨q, hq, e⟩ := List.mem_map.mp m
    exact hn q hq e
  · rcases List.mem_cons.mp hq with rfl | hq
    · exact upd_same
    · rw [upd_ne (hn q hq)]
      exact z.at_ q hq
  · rcases List.mem_cons.mp hq with rfl | hq
    · exact h0
    · exact z.fresh q hq e
  · have h1 := z.fr b u (fun q hq => hb q (List.mem_cons_of_mem _ hq)) h'
    rw [upd_ne (ne_of_none h1 hp)]
    exact h1
/-- new at the heap is new at the entry's, as long as all that may change is known -/
theorem Z.none (z : Z H0 H E) {p : Addr} (hp : H p = none) : H0 p = none := by
  cases e : H0 p with
  | none => rfl
  | some o =>
    have h1 := z.fr p o (fun q hq _ => ne_of_none (z.at_ q hq) hp) e
    rw [hp] at h1
    cases h1
theorem Z.alloc (z : Z H0 H E) {p : Addr} (o : HO) (hp : H p = Option.none) : Z H0 (upd H p o) ((2, p, o) :: E) := z.new hp (z.none hp)
theorem mem_set_of {α : Type} {l : List α} {i : Nat} {x y : α} (h : y ∈ l.set i x) : y = x ∨ ∃ j, j ≠ i ∧ l[j]? = some y := by
  obtain ⟨j, hj, e⟩ := List.mem_iff_getElem.mp h
  rw [List.getElem_set] at e
  by_cases hij : i = j
  · rw [if_pos hij] at e
    exact .inl e.symm
  · rw [if_neg hij] at e
    refine .inr ⟨j, fun z => hij z.symm, ?_⟩
    rw [List.getElem?_eq_getElem (by rw [List.length_set] at hj; exact hj), e]
theorem Z.other (z : Z H0 H E) {i j : Nat} {q r : En} (hi : E[i]? = some q) (hj : E[j]? = some r) (h : j ≠ i) : r.2.1 ≠ q.2.1 := fun e => by
  have h1 : (E.map (·.2.1))[i]? = some q.2.1 := by rw [List.getElem?_map, hi] <;> rfl
  have h2 : (E.map (·.2.1))[j]? = some r.2.1 := by rw [List.getElem?_map, hj] <;> rfl
  rw [e] at h2
  obtain ⟨g1, e1⟩ := List.getElem?_eq_some_iff.mp h1
  obtain ⟨g2, e2⟩ := List.getElem?_eq_some_iff.mp h2
  exact h ((List.getElem_inj z.nd).mp (e2.trans e1.symm))
theorem map_set_same {i : Nat} {t : Nat} {a : Addr} {o o' : HO} (h : E[i]? = some (t, a, o)) : (E.set i (t, a, o')).map (·.2.1) = E.map (·.2.1) := by
  rw [List.map_set]
  have h1 : (E.map (·.2.1))[i]? = some a := by rw [List.getElem?_map, h] <;> rfl
  obtain ⟨g1, e1⟩ := List.getElem?_eq_some_iff.mp h1
  refine List.ext_getElem (by simp) fun k k1 k2 => ?_
  rw [List.getElem_set]
  split
  · rename_i e
    subst e
    exact e1.symm
  · rfl
/-- the heap changed at the i-th entry alone -/
theorem Z.move (z : Z H0 H E) (i : Nat) {t : Nat} {a : Addr} {o o' : HO} (hi : E[i]? = some (t, a, o)) (ht : t = 1 ∨ t = 2) (ha : H' a = some o') (f : Fr [a] H H') : Z H0 H' (E.set i (t, a, o')) := by
  have hin := List.mem_of_getElem? hi
  refine ⟨?_, fun q hq => ?_, fun q hq e => ?_, fun b u hb h' => ?_⟩
  · rw [map_set_same hi]
    exact z.nd
  · rcases mem_set_of hq with rfl | ⟨j, hj, e⟩
    · exact ha
    · exact f _ _ (by
        intro m
        rcases List.mem_cons.mp m with m | m
        · exact z.other hi e hj m
        · cases m) (z.at_ q (List.mem_of_getElem? e))
  · rcases mem_set_of hq with rfl | ⟨j, hj, e2⟩
    · exact z.fresh (t, a, o) hin e
    · exact z.fresh q (List.mem_of_getElem? e2) e
  · have hba : b ≠ a := fun e => by
      subst e
      rcases ht with rfl | rfl
      · exact hb (1, b, o') (List.mem_iff_getElem?.mpr ⟨i, by rw [List.getElem?_set_self (List.getElem?_eq_some_iff.mp hi).1]⟩) rfl rfl
      · have := z.fresh _ hin rfl
        rw [h'] at this
        cases this
    have h1 := z.fr b u (fun q hq e1 e2 => by
      obtain ⟨j, hj⟩ := List.mem_iff_getElem?.mp hq
      by_cases hji : j = i
      · subst hji
        rw [hi] at hj
        cases hj
        exact hba e2.symm
      · exact hb q (List.mem_iff_getElem?.mpr ⟨j, by rw [List.getElem?_set_ne (Ne.symm hji)]; exact hj⟩) e1 e2) h'
    exact f b u (fun m => by
      rcases List.mem_cons.mp m with m | m
      · exact hba m
      · cases m) h1
theorem Z.set (z : Z H0 H E) (i : Nat) {t : Nat} {a : Addr} {o : HO} (o' : HO) (hi : E[i]? = some (t, a, o)) (ht : t = 1 ∨ t = 2) : Z H0 (upd H a o') (E.set i (t, a, o')) :=
  z.move i hi ht upd_same fun b u hb h => by
    rw [upd_ne (fun e => hb (by rw [e]; exact List.mem_cons_self))]
    exact h
theorem Z.same (z : Z H0 H E) (f : Fr [] H H') : Z H0 H' E := ⟨z.nd, fun q hq => f _ _ (fun m => nomatch m) (z.at_ q hq), z.fresh, fun a o ha h => f _ _ (fun m => nomatch m) (z.fr a o ha h)⟩
/-- what came new -/
theorem Z.adds (z : Z H0 H' E) {N : List (Addr × HO)} (n : HL H' N) (h0 : ∀ q ∈ N, H0 q.1 = Option.none) (hd : ∀ q ∈ N, ∀ e ∈ E, e.2.1 ≠ q.1) : Z H0 H' (N.map (fun q => ((2, q.1, q.2) : En)) ++ E) := by
  refine ⟨?_, fun q hq => ?_, fun q hq e => ?_, fun b u hb h' => ?_⟩
  · rw [List.map_append, List.nodup_append]
    refine ⟨?_, z.nd, fun x hx y hy e => ?_⟩
    · have e : (N.map (fun q => ((2, q.1, q.2) : En))).map (·.2.1) = N.map (·.1) := by rw [List.map_map]; rfl
      rw [e]
      exact n.1
    · obtain ⟨q, hq, rfl⟩ := List.mem_map.mp hx
      obtain ⟨q', hq', rfl⟩ := List.mem_map.mp hq
      obtain ⟨r, hr, rfl⟩ := List.mem_map.mp hy
      exact hd q' hq' r hr e.symm
  · rcases List.mem_append.mp hq with hq | hq
    · obtain ⟨q', hq', rfl⟩ := List.mem_map.mp hq
      exact n.2 q' hq'
    · exact z.at_ q hq
  · rcases List.mem_append.mp hq with hq | hq
    · obtain ⟨q', hq', rfl⟩ := List.mem_map.mp hq
      exact h0 q' hq'
    · exact z.fresh q hq e
  · exact z.fr b u (fun q hq => hb q (List.mem_append_right _ hq)) h'
/-- behind a call that changes the i-th entry and makes N -/
theorem Z.call (z : Z H0 H E) (i : Nat) {t : Nat} {a : Addr} {o o' : HO} {N : List (Addr × HO)} (hi : E[i]? = some (t, a, o)) (ht : t = 1 ∨ t = 2) (ha : H' a = some o') (f : Fr [a] H H') (n : New H H' N) : Z H0 H' (N.map (fun q => ((2, q.1, q.2) : En)) ++ E.set i (t, a, o')) := by
  refine (z.move i hi ht ha f).adds n.1 (fun q hq => z.none (n.2 q hq)) fun q hq e he => ?_
  rcases mem_set_of he with rfl | ⟨j, hj, e2⟩
  · exact ne_of_none (z.at_ (t, a, o) (List.mem_of_getElem? hi)) (n.2 q hq)
  · exact ne_of_none (z.at_ _ (List.mem_of_getElem? e2)) (n.2 q hq)
/-- behind a call that makes N alone -/
theorem Z.call0 (z : Z H0 H E) {N : List (Addr × HO)} (f : Fr [] H H') (n : New H H' N) : Z H0 H' (N.map (fun q => ((2, q.1, q.2) : En)) ++ E) :=
  (z.same f).adds n.1 (fun q hq => z.none (n.2 q hq)) fun q hq e he => ne_of_none (z.at_ _ he) (n.2 q hq)
/-- entries forgotten, but those that may change -/
theorem Z.sub (z : Z H0 H E) {E' : List En} (s : E'.Sublist E) (k : ∀ q ∈ E, q.1 = 1 → q ∈ E') : Z H0 H E' :=
  ⟨(s.map _).nodup z.nd, fun q hq => z.at_ q (s.subset hq), fun q hq => z.fresh q (s.subset hq), fun a o ha h => z.fr a o (fun q hq e => ha q (k q hq e) e) h⟩
theorem Z.perm (z : Z H0 H E) {E' : List En} (s : E'.Perm E) : Z H0 H E' :=
  ⟨(s.map _).nodup_iff.mpr z.nd, fun q hq => z.at_ q (s.subset hq), fun q hq => z.fresh q (s.subset hq), fun a o ha h => z.fr a o (fun q hq e => ha q (s.symm.subset hq) e) h⟩
theorem Z.fr0 (z : Z H0 H E) (h : ∀ q ∈ E, q.1 ≠ 1) : Fr [] H0 H := fun a o _ e => z.fr a o (fun q hq e1 => absurd e1 (h q hq)) e
theorem Z.fr1 (z : Z H0 H E) {j : Addr} (h : ∀ q ∈ E, q.1 = 1 → q.2.1 = j) : Fr [j] H0 H := fun a o ha e => z.fr a o (fun q hq e1 e2 => ha (by rw [← e2, h q hq e1]; exact List.mem_cons_self)) e
theorem Z.keep (z : Z H0 H E) {a : Addr} {o : HO} (h : H0 a = some o) (n : ∀ q ∈ E, q.1 = 1 → q.2.1 ≠ a) : H a = some o := z.fr a o n h
theorem Z.comp (z : Z H0 H E) {D : Addr} {o : HO} (f : Fr [] H H') (h0 : H D = Option.none) (h1 : H' D = some o) : Z H0 H' ((2, D, o) :: E) := by
  refine z.call0 (N := [(D, o)]) f ⟨⟨List.nodup_cons.mpr ⟨(fun m => nomatch m), List.nodup_nil⟩, fun q hq => ?_⟩, fun q hq => ?_⟩
  · rcases List.mem_cons.mp hq with rfl | hq
    · exact h1
    · cases hq
  · rcases List.mem_cons.mp hq with rfl | hq
    · exact h0
    · cases hq
theorem Z.ne (z : Z H0 H E) (i j : Nat) {q r : En} (hi : E[i]? = some q) (hj : E[j]? = some r) (h : j ≠ i) : r.2.1 ≠ q.2.1 := z.other hi hj h
/-- of the new ones those by their places -/
theorem Z.made (z : Z H0 H E) {N : List (Addr × HO)} (s : (N.map (fun q => ((2, q.1, q.2) : En))).Sublist E) : New H0 H N := by
  refine ⟨⟨?_, fun q hq => z.at_ (2, q.1, q.2) (s.subset (List.mem_map.mpr ⟨q, hq, rfl⟩))⟩, fun q hq => z.fresh (2, q.1, q.2) (s.subset (List.mem_map.mpr ⟨q, hq, rfl⟩)) rfl⟩
  have := (s.map (·.2.1)).nodup z.nd
  rw [List.map_map] at this
  exact this
end
/-! ## readings, one step each -/
section
variable {K : PySem.W.Frag} {σ : L2.St} {H : Hp} {Q : VK} {QB : Bool → Hp → Prop} {D : Ends} {t u : TS} {ta tb tc te : TE} {tt tu : TT} {tas : TA} {v x y : V} {n i j : Int} {C : Int → Int → Prop} {g : Int → Int → V} {G : TG} {p a : Addr} {xs : List V} {r : R2}
theorem r_seq (h : t { D with nx := u D } σ H) : tSeq t u D σ H := h
theorem r_asg (h : te σ H fun x H1 => G x σ H1 D.nx) : tAsg te G D σ H := h
theorem r_ret (h : te σ H D.rt) : tRet te D σ H := h
theorem r_drop (h : te σ H fun _ H1 => D.nx σ H1) : tDrop te D σ H := h
theorem r_next (h : D.nx σ H) : tNext D σ H := h
theorem r_ifs (h : tt σ H fun b H1 => if b = true then t D σ H1 else u D σ H1) : tIfS tt t u D σ H := h
theorem r_var {k : Nat} (h : σ[k]? = some (some v)) (q : Q v H) : tVar k σ H Q := ⟨v, h, q⟩
theorem r_c (q : Q v H) : tC v σ H Q := q
theorem r_op (h : ta σ H fun x H1 => tb σ H1 fun y H2 => r x y H2 Q) : tOp r ta tb σ H Q := h
theorem r_un {r : V → Hp → VK → Prop} (h : ta σ H fun x H1 => r x H1 Q) : tUn r ta σ H Q := h
theorem r_I0 (q : Q (g i j) H) : rI0 g (.int i) (.int j) H Q := ⟨i, j, rfl, rfl, q⟩
theorem r_I (c : C i j) (q : Q (g i j) H) : rI C g (.int i) (.int j) H Q := ⟨i, j, rfl, rfl, c, q⟩
theorem r_U {g : Int → V} (q : Q (g i) H) : rU g (.int i) H Q := ⟨i, rfl, q⟩
theorem r_test (h : te σ H fun x H' => ∃ k, x = .bl k ∧ QB k H') : tTest te σ H QB := h
theorem r_B (h : te σ H fun x H' => ∃ k, x = .bl k ∧ QB k H') : tB te σ H QB := h
theorem r_and (h : tt σ H fun c H1 => if c = true then tu σ H1 QB else QB false H1) : tAnd tt tu σ H QB := h
theorem r_or (h : tt σ H fun c H1 => if c = true then QB true H1 else tu σ H1 QB) : tOr tt tu σ H QB := h
theorem r_not (h : tt σ H fun c H1 => QB (!c) H1) : tNot tt σ H QB := h
theorem r_andV (h : ta σ H fun x H1 => ∃ c, x = .bl c ∧ if c = true then tb σ H1 Q else Q (.bl false) H1) : tAndV ta tb σ H Q := h
theorem r_orV (h : ta σ H fun x H1 => ∃ c, x = .bl c ∧ if c = true then Q (.bl true) H1 else tb σ H1 Q) : tOrV ta tb σ H Q := h
theorem r_notV (h : ta σ H fun x H1 => ∃ c, x = .bl c ∧ Q (.bl (!c)) H1) : tNotV ta σ H Q := h
theorem r_exif {b : Bool} {P : Bool → Prop} (h : P b) : ∃ c, V.bl b = V.bl c ∧ P c := ⟨b, rfl, h⟩
theorem r_if (h : tt σ H fun c H1 => if c = true then ta σ H1 Q else tb σ H1 Q) : tIf tt ta tb σ H Q := h
theorem r_name {k : Nat} {R : L2.St → Hp → Prop} (h : R (σ.set k (some v)) H) : gName k v σ H R := h
theorem r_gtup {k : Nat} {T : TGs} {R : L2.St → Hp → Prop} (h : SqT K H a xs) (e : xs.length = k) (q : T xs σ H R) : gTup K k T (.ref a) σ H R := ⟨a, xs, rfl, h, e, q⟩
theorem r_gcons {T : TGs} {R : L2.St → Hp → Prop} {vs : List V} (q : G v σ H fun σ' H' => T vs σ' H' R) : gCons G T (v :: vs) σ H R := ⟨v, vs, rfl, q⟩
theorem r_gnil {R : L2.St → Hp → Prop} (q : R σ H) : gNil [] σ H R := ⟨rfl, q⟩
theorem r_gsub {T : TSet} {R : L2.St → Hp → Prop} (h : ta σ H fun o H1 => tb σ H1 fun i H2 => T o i v H2 fun H3 => R σ H3) : gSub ta tb T v σ H R := h
theorem r_setL {R : Hp → Prop} {k : Int} (h : H p = some (.lst xs)) (q : ∃ m, ixN xs.length k = some m ∧ R (upd H p (.lst (xs.set m v)))) : rSetL (.ref p) (.int k) v H R := by
  obtain ⟨m, e, q⟩ := q
  exact ⟨p, xs, k, m, rfl, rfl, h, e, q⟩
theorem r_tup (h : tas σ H fun xs H1 => xs.length ≤ sizeLine ∧ ∀ p, H1 p = none → Q (.ref p) (upd H1 p (.tup xs))) : tTup tas σ H Q := h
theorem r_lst (h : tas σ H fun xs H1 => xs.length ≤ sizeLine ∧ ∀ p, H1 p = none → Q (.ref p) (upd H1 p (.lst xs))) : tLst tas σ H Q := h
theorem r_mk {P : Prop} (e : xs.length ≤ sizeLine) (h : P) : xs.length ≤ sizeLine ∧ P := ⟨e, h⟩
theorem iteNT {A B : Prop} (h : B) : if (!true) = true then A else B := iteF h
theorem iteNF {A B : Prop} (h : A) : if (!false) = true then A else B := iteT h
theorem r_cons {R : List V → Hp → Prop} (h : ta σ H fun x H1 => tas σ H1 fun xs H2 => R (x :: xs) H2) : tCons ta tas σ H R := h
theorem r_nil {R : List V → Hp → Prop} (h : R [] H) : tNil σ H R := h
theorem r_cb {rr : List V → Hp → VK → Prop} (h : tas σ H fun vs H1 => rr vs H1 Q) : tCB rr tas σ H Q := h
theorem r_call {sp : Sp} {dvs : List V} {E : XK} (h : tas σ H fun vs H1 => sp (vs ++ dvs) H1 Q E) : tCall sp dvs E tas σ H Q := h
theorem r_ixL (h : SqL K H p xs) (q : ∃ v, atI xs i = some v ∧ Q v H) : rIxL K (.ref p) (.int i) H Q := by
  obtain ⟨v, e, q⟩ := q
  exact ⟨p, xs, i, v, rfl, rfl, h, e, q⟩
theorem r_ixT (h : SqT K H p xs) (q : ∃ v, atI xs i = some v ∧ Q v H) : rIxT K (.ref p) (.int i) H Q := by
  obtain ⟨v, e, q⟩ := q
  exact ⟨p, xs, i, v, rfl, rfl, h, e, q⟩
theorem r_at {P : V → Prop} (e : atI xs i = some v) (q : P v) : ∃ v, atI xs i = some v ∧ P v := ⟨v, e, q⟩
theorem r_ixn {k : Int} {m n : Nat} {P : Nat → Prop} (e : ixN n k = some m) (q : P m) : ∃ m, ixN n k = some m ∧ P m := ⟨m, e, q⟩
theorem r_ixSL (q : rIxL K x y H Q) : rIx K x y H Q := .inl q
theorem r_ixST (q : rIxT K x y H Q) : rIx K x y H Q := .inr (.inl q)
theorem r_exfld {Cc dx : Addr} {fs : List (Str × V)} {f : Str} {P : V → Prop} (h : H a = some (.ins Cc dx fs)) (c : Cls K Cc) (n : NoAttr K Cc f) (l : fs.lookup f = some v) (q : P v) :
    ∃ b C dx fs v, V.ref a = .ref b ∧ H b = some (.ins C dx fs) ∧ Cls K C ∧ NoAttr K C f ∧ fs.lookup f = some v ∧ P v := ⟨a, Cc, dx, fs, v, rfl, h, c, n, l, q⟩
theorem r_exsfld {Cc dx : Addr} {fs : List (Str × V)} {f : Str} {P : Addr → Addr → Addr → List (Str × V) → Prop} (h : H a = some (.ins Cc dx fs)) (c : Cls K Cc) (n : NoAttr K Cc f) (l : fs.length < 1000) (q : P a Cc dx fs) :
    ∃ b C dx fs, V.ref a = .ref b ∧ H b = some (.ins C dx fs) ∧ Cls K C ∧ NoAttr K C f ∧ fs.length < 1000 ∧ P b C dx fs := ⟨a, Cc, dx, fs, rfl, h, c, n, l, q⟩
theorem r_sfld {f : Str} (h : te σ H fun y H1 => ta σ H1 fun x H2 => ∃ a C dx fs, x = .ref a ∧ H2 a = some (.ins C dx fs) ∧ Cls K C ∧ NoAttr K C f ∧ fs.length < 1000 ∧ D.nx σ (upd H2 a (.ins C dx (putF f y fs)))) : sFld K ta te f D σ H := h
theorem r_exm {Cc dx : Addr} {fs : List (Str × V)} {m : Str} {P : Prop} (h : H a = some (.ins Cc dx fs)) (l : fs.lookup m = none) (q : P) : ∃ b dx fs, V.ref a = .ref b ∧ H b = some (.ins Cc dx fs) ∧ fs.lookup m = none ∧ P := ⟨a, dx, fs, rfl, h, l, q⟩
theorem r_exp {Cc dx : Addr} {fs : List (Str × V)} {P : Addr → Prop} (h : H a = some (.ins Cc dx fs)) (q : P a) : ∃ b dx fs, V.ref a = .ref b ∧ H b = some (.ins Cc dx fs) ∧ P b := ⟨a, dx, fs, rfl, h, q⟩
theorem r_fld {f : Str} (h : ta σ H fun x H1 => ∃ a C dx fs v, x = .ref a ∧ H1 a = some (.ins C dx fs) ∧ Cls K C ∧ NoAttr K C f ∧ fs.lookup f = some v ∧ Q v H1) : tFld K ta f σ H Q := h
theorem r_bm {T : String} {rr : V → List V → Hp → VK → Prop} (h : ta σ H fun x H1 => tyV K T x H1 ∧ tas σ H1 fun xs H2 => rr x xs H2 Q) : tBM K T rr ta tas σ H Q := h
theorem r_app (h : H p = some (.lst xs)) (e : xs.length < sizeLine) (q : Q .non (upd H p (.lst (xs ++ [y])))) : rAppend (.ref p) [y] H Q := ⟨p, xs, y, rfl, rfl, h, e, q⟩
theorem r_tyL {P : Prop} (h : H p = some (.lst xs)) (q : P) : tyV K "list" (.ref p) H ∧ P := ⟨.inl ⟨rfl, _, SqL.of h⟩, q⟩
theorem r_sl {rr : V → Option Int → Option Int → Hp → VK → Prop} {tl th : TO} (h : te σ H fun x H1 => tl σ H1 fun l H2 => th σ H2 fun u H3 => rr x l u H3 Q) : tSl rr te tl th σ H Q := h
theorem r_part {R : Option Int → Hp → Prop} (h : te σ H fun x H1 => ∃ i, x = .int i ∧ R (some i) H1) : tPart te σ H R := h
theorem r_exint {R : Int → Prop} (h : R i) : ∃ k, V.int i = V.int k ∧ R k := ⟨i, rfl, h⟩
theorem r_nopart {R : Option Int → Hp → Prop} (h : R none H) : tNoPart σ H R := h
theorem r_slL {lo hi : Option Int} (h : SqL K H a xs) (q : ∀ p, H p = none → Q (.ref p) (upd H p (.lst (cutV xs lo hi)))) : rSlL K (.ref a) lo hi H Q := ⟨a, xs, rfl, h, q⟩
theorem r_revL (h : te σ H fun x H1 => ∃ a xs, x = .ref a ∧ SqL K H1 a xs ∧ ∀ p, H1 p = none → Q (.ref p) (upd H1 p (.lst xs.reverse))) : tRevL K te σ H Q := h
theorem r_exrev {P : List V → Prop} (h : SqL K H a xs) (q : P xs) : ∃ b ys, V.ref a = .ref b ∧ SqL K H b ys ∧ P ys := ⟨a, xs, rfl, h, q⟩
theorem r_cat {l b : Addr} {zs : List V} (h1 : H l = some (.lst xs)) (h2 : H b = some (.lst zs)) (e : xs.length + zs.length ≤ sizeLine) (q : ∀ p, H p = none → Q (.ref p) (upd H p (.lst (xs ++ zs)))) : rCat (.ref l) (.ref b) H Q := ⟨l, b, xs, zs, rfl, rfl, h1, h2, e, q⟩
theorem r_eq (h : scal x y = true) (q : Q (.bl (decide (x = y))) H) : rEq x y H Q := ⟨h, q⟩
theorem r_ne (h : scal x y = true) (q : Q (.bl (!decide (x = y))) H) : rNe x y H Q := ⟨h, q⟩
theorem r_chain {r' : R2} (h : ta σ H fun x H1 => tb σ H1 fun y H2 => r x y H2 fun z H3 => ∃ k, z = .bl k ∧ (if k = true then tc σ H3 fun w' H4 => r' y w' H4 Q else Q (.bl false) H3)) : tChain r r' ta tb tc σ H Q := h
theorem r_ite {c A B : Prop} [Decidable c] (h1 : c → A) (h2 : ¬ c → B) : if decide c = true then A else B := ite2 (fun z => h1 (of_decide_eq_true z)) fun z => h2 fun y => z (decide_eq_true y)
theorem r_iteN {c A B : Prop} [Decidable c] (h1 : ¬ c → A) (h2 : c → B) : if (!decide c) = true then A else B := ite2 (fun z => h1 fun y => by rw [decide_eq_true y] at z; cases z) fun z => h2 (by
  by_cases y : c
  · exact y
  · exact absurd (by rw [decide_eq_false y]; rfl) z)
theorem r_par {k l : Nat} (h : tas σ H fun vs H1 => ∃ v w, vs = [v, w] ∧ D.nx ((σ.set k (some v)).set l (some w)) H1) : tPar k l tas D σ H := h
theorem r_expar {R : V → V → Prop} (h : R x y) : ∃ v w, [x, y] = [v, w] ∧ R v w := ⟨x, y, rfl, h⟩
theorem r_exref {R : Addr → Prop} (h : R a) : ∃ b, V.ref a = V.ref b ∧ R b := ⟨a, rfl, h⟩
/-! loops -/
def ForJ (G : TG) (tb : TS) (D : Ends) (σ : L2.St) (J : It) (H1 : Hp) : Prop := ∃ W : Nat → Nat → L2.St → Hp → Prop, (∃ m, W 0 m σ H1) ∧ ∀ i m σ H, W i m σ H →
  (J.stop i H ∧ D.nx σ H) ∨ (J.go i H ∧ ∃ N : L2.St → Hp → Prop, (∀ σ' H', N σ' H' → ∃ m', m' < m ∧ W (i + 1) m' σ' H') ∧ ∀ x H', J.yld i H x H' → G x σ H' fun σ2 H2 => tb { D with nx := N, ct := N, bk := D.nx } σ2 H2)
theorem r_for {wi : TI} {tb : TS} (h : wi σ H (ForJ G tb D σ)) : tFor wi G tb D σ H := h
def LcJ (G : TG) (tt : TT) (te : TE) (vs : List Nat) (σ : L2.St) (Q : VK) (J : It) (H1 : Hp) : Prop := ∀ D, H1 D = none → ∃ W : Nat → Nat → Hp → Prop, (∃ m, W 0 m (upd H1 D (.lst []))) ∧ ∀ i m H, W i m H →
  (J.stop i H ∧ Q (.ref D) H) ∨ (J.go i H ∧ ∃ Nx : Hp → Prop, (∀ H', Nx H' → ∃ m', m' < m ∧ W (i + 1) m' H') ∧ ∀ x H', J.yld i H x H' → G x (wipe σ vs) H' fun σ2 H2 => wipe σ2 vs = wipe σ vs ∧ tt σ2 H2 fun b H3 =>
    if b = true then te σ2 H3 fun y H4 => ∃ acc, H4 D = some (.lst acc) ∧ acc.length < sizeLine ∧ Nx (upd H4 D (.lst (acc ++ [y]))) else Nx H3)
theorem r_lc {wi : TI} {vs : List Nat} (h : wi σ H (LcJ G tt te vs σ Q)) : tLc wi G tt te vs σ H Q := h
theorem r_ilist {R : It → Hp → Prop} (h : te σ H fun x H1 => ∃ a, x = .ref a ∧ (∃ xs, SqL K H1 a xs) ∧ R (Itl K a) H1) : iList K te σ H R := h
theorem r_exil {P : Addr → Prop} (hs : SqL K H a xs) (h : P a) : ∃ b, V.ref a = .ref b ∧ (∃ xs, SqL K H b xs) ∧ P b := ⟨a, rfl, ⟨xs, hs⟩, h⟩
theorem r_itup {R : It → Hp → Prop} (h : te σ H fun x H1 => ∃ a, x = .ref a ∧ (∃ xs, SqT K H1 a xs) ∧ R (Itt K a) H1) : iTup K te σ H R := h
theorem r_exit {P : Addr → Prop} (hs : SqT K H a xs) (h : P a) : ∃ b, V.ref a = .ref b ∧ (∃ xs, SqT K H b xs) ∧ P b := ⟨a, rfl, ⟨xs, hs⟩, h⟩
theorem r_irng1 {R : It → Hp → Prop} (h : tas σ H fun vs H1 => ∃ j : Int, vs = [.int j] ∧ -(2 ^ 62) ≤ j ∧ j < 2 ^ 62 ∧ R (Itr 0 j.toNat) H1) : iRng1 tas σ H R := h
theorem r_exr1 {P : Int → Prop} (h1 : -(2 ^ 62) ≤ j ∧ j < 2 ^ 62) (h : P j) : ∃ k : Int, [V.int j] = [.int k] ∧ -(2 ^ 62) ≤ k ∧ k < 2 ^ 62 ∧ P k := ⟨j, rfl, h1.1, h1.2, h⟩
theorem r_irng2 {R : It → Hp → Prop} (h : tas σ H fun vs H1 => ∃ i j : Int, vs = [.int i, .int j] ∧ (-(2 ^ 62) ≤ i ∧ i < 2 ^ 62 ∧ -(2 ^ 62) ≤ j ∧ j < 2 ^ 62) ∧ R (Itr i (j - i).toNat) H1) : iRng2 tas σ H R := h
theorem r_exr2 {P : Int → Int → Prop} (h1 : -(2 ^ 62) ≤ i ∧ i < 2 ^ 62 ∧ -(2 ^ 62) ≤ j ∧ j < 2 ^ 62) (h : P i j) : ∃ k l : Int, [V.int i, V.int j] = [.int k, .int l] ∧ (-(2 ^ 62) ≤ k ∧ k < 2 ^ 62 ∧ -(2 ^ 62) ≤ l ∧ l < 2 ^ 62) ∧ P k l := ⟨i, j, rfl, h1, h⟩
theorem r_irng3 {R : It → Hp → Prop} (h : tas σ H fun vs H1 => ∃ (i j c : Int) (n : Nat), vs = [.int i, .int j, .int c] ∧ RgC i j c n ∧ R (Itc i c n) H1) : iRng3 tas σ H R := h
theorem r_exr3 {P : Int → Int → Nat → Prop} (h1 : -(2 ^ 62) ≤ i ∧ i < 2 ^ 62 ∧ -(2 ^ 62) ≤ j ∧ j < 2 ^ 62) (h : P i (-1) (i - j).toNat) : ∃ (k l c : Int) (n : Nat), [V.int i, V.int j, V.int (-1)] = [.int k, .int l, .int c] ∧ RgC k l c n ∧ P k c n := ⟨i, j, -1, _, rfl, RgC.neg h1.1 h1.2.1 h1.2.2.1 h1.2.2.2, h⟩
theorem r_izip {R : It → Hp → Prop} (h : tas σ H fun vs H1 => ∃ a b xs ys, vs = [.ref a, .ref b] ∧ SqL K H1 a xs ∧ SqL K H1 b ys ∧ R (Itz K a b) H1) : iZip K tas σ H R := h
theorem r_exz {P : Addr → Addr → Prop} {b : Addr} {ys : List V} (h1 : SqL K H a xs) (h2 : SqL K H b ys) (h : P a b) : ∃ c d xs ys, [V.ref a, V.ref b] = [.ref c, .ref d] ∧ SqL K H c xs ∧ SqL K H d ys ∧ P c d := ⟨a, b, xs, ys, rfl, h1, h2, h⟩
theorem r_ienum {R : It → Hp → Prop} (h : tas σ H fun vs H1 => ∃ a xs, vs = [.ref a] ∧ SqL K H1 a xs ∧ R (Ite K a) H1) : iEnum K tas σ H R := h
theorem r_exen {P : Addr → Prop} (h1 : SqL K H a xs) (h : P a) : ∃ c xs, [V.ref a] = [.ref c] ∧ SqL K H c xs ∧ P c := ⟨a, xs, rfl, h1, h⟩
theorem r_yes (h : QB true H) : tYes σ H QB := h
theorem r_yes1 {A B : Prop} (h : A) : if true = true then A else B := iteT h
/-! built-ins by values -/
theorem r_len {P : List V → Prop} (h : SqL K H p xs) (q : P xs) : ∃ r ys, [V.ref p] = [.ref r] ∧ (SqL K H r ys ∨ SqT K H r ys) ∧ P ys := ⟨p, xs, rfl, .inl h, q⟩
theorem r_lenT {P : List V → Prop} (h : SqT K H p xs) (q : P xs) : ∃ r ys, [V.ref p] = [.ref r] ∧ (SqL K H r ys ∨ SqT K H r ys) ∧ P ys := ⟨p, xs, rfl, .inr h, q⟩
theorem r_int1 {P : Int → Prop} {P' : Prop} (q : P i) : (∃ k, [V.int i] = [.int k] ∧ P k) ∨ P' := .inl ⟨i, rfl, q⟩
theorem r_int2 {P : Int → Prop} (q : P i) : ∃ k, [V.int i] = [.int k] ∧ P k := ⟨i, rfl, q⟩
theorem r_int3 {P : Int → Int → Prop} (q : P i j) : ∃ k l, [V.int i, V.int j] = [.int k, .int l] ∧ P k l := ⟨i, j, rfl, q⟩
theorem r_all {bs : List Bool} (h : SqL K H p (bs.map V.bl)) (q : Q (.bl (bs.all id)) H) : rAll K [.ref p] H Q := ⟨p, bs, rfl, h, q⟩
theorem r_any {bs : List Bool} (h : SqL K H p (bs.map V.bl)) (q : Q (.bl (bs.any id)) H) : rAny K [.ref p] H Q := ⟨p, bs, rfl, h, q⟩
theorem r_allB {bs : List Bool} {b : Bool} (h : SqL K H p (bs.map V.bl)) (e : bs.all id = b) (q : Q (.bl b) H) : rAll K [.ref p] H Q := ⟨p, bs, rfl, h, by rw [e]; exact q⟩
theorem r_anyB {bs : List Bool} {b : Bool} (h : SqL K H p (bs.map V.bl)) (e : bs.any id = b) (q : Q (.bl b) H) : rAny K [.ref p] H Q := ⟨p, bs, rfl, h, by rw [e]; exact q⟩
theorem r_isi {b : Bool} {t u : Value} {c : V} (h1 : ClsV c u) (h2 : TyX K H x t) (h3 : PySem.W.kitOne K t u = some b) (q : Q (.bl b) H) : rIsi K [x, c] H Q := ⟨x, c, t, u, b, rfl, h1, h2, h3, q⟩
theorem r_make {sp : Sp} {dvs : List V} {E : XK} {Cc : Addr} (h : tas σ H fun vs H1 => ∀ x dx, H1 x = none → H1 dx = none → dx ≠ x → sp (.ref x :: (vs ++ dvs)) (upd (upd H1 dx (.own x)) x (.ins Cc dx [])) (fun v H2 => v = .non ∧ Q (.ref x) H2) E) : tMake Cc sp dvs E tas σ H Q := h
theorem r_meth {sp : Sp} {dvs : List V} {E : XK} {Cc : Addr} {m : Str} (h : ta σ H fun x H1 => ∃ a dx fs, x = .ref a ∧ H1 a = some (.ins Cc dx fs) ∧ fs.lookup m = none ∧ tas σ H1 fun vs H2 => sp (x :: (vs ++ dvs)) H2 Q E) : tMeth Cc m sp dvs E ta tas σ H Q := h
theorem r_prop {sp : Sp} {dvs : List V} {E : XK} {Cc : Addr} (h : ta σ H fun x H1 => ∃ a dx fs, x = .ref a ∧ H1 a = some (.ins Cc dx fs) ∧ sp (.ref a :: dvs) H1 Q E) : tProp Cc sp dvs E ta σ H Q := h
end
abbrev rLenX (K : PySem.W.Frag) : List V → Hp → VK → Prop := fun xs H Q => ∃ p ys, xs = [.ref p] ∧ (SqL K H p ys ∨ SqT K H p ys) ∧ Q (.int ys.length) H
abbrev rListX (K : PySem.W.Frag) : List V → Hp → VK → Prop := fun xs H Q => ∃ p ys, xs = [.ref p] ∧ (SqL K H p ys ∨ SqT K H p ys) ∧ ∀ l, H l = none → Q (.ref l) (upd H l (.lst ys))
abbrev rMax2X : List V → Hp → VK → Prop := fun xs H Q => ∃ i j, xs = [.int i, .int j] ∧ Q (.int (if j > i then j else i)) H
abbrev rMin2X : List V → Hp → VK → Prop := fun xs H Q => ∃ i j, xs = [.int i, .int j] ∧ Q (.int (if j < i then j else i)) H
/-! ## operators -/
section
variable {X : Cx}
/-- x ** n of any size below 2 ^ 27 bits -/
def CPowW (i j : Int) : Prop := 0 ≤ j ∧ (Builtin.Int.intBits i : Int) * j ≤ 2 ^ 27
theorem op_powW : OpR X (binaryOp .Pow) (rI CPowW fun i j => .int (i ^ j.toNat)) := opI fun _ _ _ _ _ _ _ hc q => pow_int hc.1 hc.2 q
theorem powW {i j : Int} {b : Nat} (h0 : 0 ≤ j) (hj : j ≤ 100) (hb : i.natAbs < 2 ^ b) (h : b ≤ 1000000) (h1 : 0 < b) : CPowW i j := by
  refine ⟨h0, ?_⟩
  have h2 : Builtin.Int.intBits i ≤ b := by
    unfold Builtin.Int.intBits
    have := PySem.Flt.log2_lt_of h1 hb
    split <;> omega
  have h3 : (Builtin.Int.intBits i : Int) ≤ 1000000 := by omega
  have h4 : (Builtin.Int.intBits i : Int) * j ≤ 1000000 * 100 := Int.mul_le_mul h3 hj h0 (by decide)
  omega
theorem pow10 {j : Int} (h : 0 ≤ j ∧ j ≤ 100) : CPowW 10 j := powW (b := 4) h.1 h.2 (by decide) (by decide) (by decide)
theorem natAbs_lt {x : Int} {n : Nat} (h0 : -(2 ^ n) < x) (h : x < 2 ^ n) : x.natAbs < 2 ^ n := by
  have e : ((2 ^ n : Nat) : Int) = (2 : Int) ^ n := by simp
  omega
end
theorem smalllt' {n : Nat} (h : n ≤ 99999) : n < PySem.sizeLine := Nat.lt_of_lt_of_le (show n < 100000 by omega) (by decide)
theorem small1000' {n : Nat} (h : n ≤ 100000) : n ≤ PySem.sizeLine := Nat.le_trans h (by decide)
set_option Elab.async false
set_option linter.all false
set_option maxRecDepth 100000
set_option maxHeartbeats 4000000
/-! ## facts of the top, by names -/
def propB (K : PySem.W.Frag) (C : Addr) (f : Str) : Bool := match PySem.W.findIn K (.ref C) f with
  | some (some (.ref p)) => He.eqO (PySem.W.specialIn K (.ref p) "__get__") (some (some (.builtin "property.__get__"))) && (decide (PySem.W.takesIn K (.ref p) = some true) && (match PySem.W.recIn K p "property" with
    | some (.ref _ :: _) => true
    | _ => false))
  | _ => false
/-- the getter of a property -/
def pgA (C f : Str) (K : PySem.W.Frag) : Addr := match PySem.W.findIn K (.ref (He.ga K C)) f with
  | some (some (.ref p)) => (match PySem.W.recIn K p "property" with
    | some (.ref g :: _) => g
    | _ => 0)
  | _ => 0
theorem propB_ok {K : PySem.W.Frag} {C f : Str} (h : propB K (He.ga K C) f = true) : ∃ p, PropOf K (He.ga K C) f p (pgA C f K) := by
  unfold propB at h
  unfold pgA
  cases e : PySem.W.findIn K (.ref (He.ga K C)) f with
  | none =>
    rw [e] at h
    cases h
  | some r =>
    cases r with
    | none =>
      rw [e] at h
      cases h
    | some u =>
      cases u with
      | ref p =>
        rw [e] at h
        dsimp only at h ⊢
        obtain ⟨h1, h2⟩ := He.ba h
        obtain ⟨h3, h4⟩ := He.ba h2
        cases e2 : PySem.W.recIn K p "property" with
        | none =>
          rw [e2] at h4
          cases h4
        | some l =>
          rw [e2] at h4
          cases l with
          | nil => cases h4
          | cons g r =>
            cases g with
            | ref g => exact ⟨p, e, He.eqO_ok h1, of_decide_eq_true h3, r, e2⟩
            | _ => cases h4
      | _ =>
        rw [e] at h
        cases h
inductive Fb where
  | b (f : He.Fa)
  | prop (C f : Str)
  | findB (C m : Str) (id : String)
  | isi (C : Str)
  | kit (C D : Str) (r : Bool)
  | tyc (C : Str)
def Fb.ok (K : PySem.W.Frag) : Fb → Bool
  | .b f => f.ok K
  | .prop C f => propB K (He.ga K C) f
  | .findB C m id => He.eqO (PySem.W.findIn K (.ref (He.ga K C)) m) (some (some (.builtin id)))
  | .isi C => He.eqO (PySem.W.findIn K (.ref (He.ga K C)) "__class__") (some (some (.builtin "object.__class__"))) && (He.eqO (PySem.W.specialIn K (.builtin "object.__class__") "__get__") (some (some (.builtin "getset_descriptor.__get__"))) &&
      (decide (PySem.W.takesIn K (.builtin "object.__class__") = some true) && decide (PySem.W.mroIn K (He.ga K C) (.type "object") = some true)))
  | .kit C D r => decide (PySem.W.kitOne K (.ref (He.ga K C)) (.ref (He.ga K D)) = some r)
  | .tyc C => (PySem.W.clsIn K (He.ga K C)).isSome && decide (PySem.W.typeIn K (.ref (He.ga K C)) = some (.type "type"))
/-- a def: its address by names -/
structure Df where
  at_ : PySem.W.Frag → Addr
  name : Str
  qual : Str
  st : Stmt
def Df.da (d : Df) : He5.DefA := ⟨d.at_, d.name, d.qual, defArgs d.st, defBody d.st, defScope d.st, [], []⟩
def obsM (fa : List Fb) (fn : List Df) (K : PySem.W.Frag) : He.AlD := ((fa.all fun f => f.ok K) && fn.all fun d => d.da.ok K, fn.map fun d => He5.fnA K (d.at_ K))
def valM (fn : List Df) : He.AlD := (true, fn.map fun d => d.da.val)
def SaysM (fa : List Fb) (fn : List Df) (K : PySem.W.Frag) : Prop := obsM fa fn K = valM fn
def obsMG (n : Nat) (fa : List Fb) (fn : List Df) (g : Addr → Option Obj) : He.AlD := obsM fa fn (He.frG g (He5.asA g n))
def hookM (n : Nat) (fa : List Fb) (fn : List Df) : PySem.W.Hook where
  α := He.AlD
  obs := fun s => obsMG n fa fn s.heap.get?
  val := fun _ => valM fn
  says := fun _ h => ∃ K : PySem.W.Frag, K.In h ∧ SaysM fa fn K
  of := fun _ _ e => ⟨_, He.frG_in, e⟩
  keeps := fun _ _ _ ⟨K, hK, c⟩ k => ⟨K, PySem.W.Frag.In.keeps hK k, c⟩
theorem obsMG_eq {n : Nat} {fa : List Fb} {fn : List Df} {g : Addr → Option Obj} {s : Shared} (h : ∀ a, g a = s.heap.get? a) : obsMG n fa fn g = (hookM n fa fn).obs s := by
  have e : g = s.heap.get? := funext h
  rw [e] <;> rfl
/-- the top's facts, the base heap -/
structure Tx (fa : List Fb) (fn : List Df) (K : PySem.W.Frag) (mg : Str → Option Value) (base : Heap) : Prop where
  says : SaysM fa fn K
  kin : K.In base
  ns : base.Ns mainGlobals mg
section
variable {fa : List Fb} {fn : List Df} {K : PySem.W.Frag} {mg : Str → Option Value} {base : Heap} {P : Program} {w : World}
theorem Tx.fact (T : Tx fa fn K mg base) (i : Nat) {f : Fb} (h : fa[i]? = some f := by rfl) : f.ok K = true := by
  have c1 := (He.ba (show ((fa.all fun f => f.ok K) && fn.all fun d => d.da.ok K) = true from congrArg (fun z : He.AlD => z.1) T.says)).1
  exact List.all_eq_true.mp c1 f (List.mem_of_getElem? h)
theorem Tx.def_ (T : Tx fa fn K mg base) (i : Nat) {d : Df} (h : fn[i]? = some d := by rfl) : ∃ fd, FunD K d.name d.qual (defArgs d.st) (defBody d.st) (defScope d.st) [] [] (d.at_ K) fd := by
  have c2 := (He.ba (show ((fa.all fun f => f.ok K) && fn.all fun d => d.da.ok K) = true from congrArg (fun z : He.AlD => z.1) T.says)).2
  have e : fn.map (fun d => He5.fnA K (d.at_ K)) = fn.map (fun d => d.da.val) := congrArg (fun z : He.AlD => z.2) T.says
  have e2 : (fn.map fun d => He5.fnA K (d.at_ K))[i]? = (fn.map fun d => d.da.val)[i]? := by rw [e]
  rw [List.getElem?_map, List.getElem?_map, h] at e2
  exact He5.DefA.funD (d := d.da) (Option.some.inj e2) (List.all_eq_true.mp c2 d (List.mem_of_getElem? h))
theorem Tx.fr (T : Tx fa fn K mg base) (i : Nat) {x : Str} (h : fa[i]? = some (.b (.free x)) := by rfl) : mg x = none := He.free_ok T.kin T.ns (T.fact i h)
theorem Tx.glo (T : Tx fa fn K mg base) (i : Nat) {x : Str} (h : fa[i]? = some (.b (.glo x)) := by rfl) : mg x = some (.ref (He.ga K x)) := He.glo_ok T.kin T.ns (T.fact i h)
theorem Tx.int (T : Tx fa fn K mg base) (i : Nat) {x : Str} {n : Int} (h : fa[i]? = some (.b (.int x n)) := by rfl) : ∃ t, mg x = some (.int n t) := He.int_ok T.kin T.ns (T.fact i h)
theorem Tx.cls (T : Tx fa fn K mg base) (i : Nat) {x : Str} (h : fa[i]? = some (.b (.cls x)) := by rfl) : Cls K (He.ga K x) := He.cls_ok (T.fact i h)
theorem Tx.noat (T : Tx fa fn K mg base) (i : Nat) {x f : Str} (h : fa[i]? = some (.b (.noat x f)) := by rfl) : NoAttr K (He.ga K x) f := He.noat_ok (T.fact i h)
theorem Tx.meth (T : Tx fa fn K mg base) (i : Nat) {x m : Str} (h : fa[i]? = some (.b (.meth x m)) := by rfl) : Meth K (He.ga K x) m (He.ma K (He.ga K x) m) := He.meth_ok (T.fact i h)
theorem Tx.mkr (T : Tx fa fn K mg base) (i : Nat) {x : Str} (h : fa[i]? = some (.b (.mkr x)) := by rfl) : Mk K (He.ga K x) (He.ma K (He.ga K x) "__init__") := He.mkr_ok (T.fact i h)
theorem Tx.prop (T : Tx fa fn K mg base) (i : Nat) {C f : Str} (h : fa[i]? = some (.prop C f) := by rfl) : ∃ p, PropOf K (He.ga K C) f p (pgA C f K) := propB_ok (T.fact i h)
theorem Tx.findB (T : Tx fa fn K mg base) (i : Nat) {C m : Str} {id : String} (h : fa[i]? = some (.findB C m id) := by rfl) : PySem.W.findIn K (.ref (He.ga K C)) m = some (some (.builtin id)) := He.eqO_ok (T.fact i h)
theorem Tx.kit (T : Tx fa fn K mg base) (i : Nat) {C D : Str} {r : Bool} (h : fa[i]? = some (.kit C D r) := by rfl) : PySem.W.kitOne K (.ref (He.ga K C)) (.ref (He.ga K D)) = some r := of_decide_eq_true (T.fact i h)
theorem Tx.isi (T : Tx fa fn K mg base) (i j : Nat) {C : Str} {H : Hp} {a dx : Addr} {fs : List (Str × V)} (e : H a = some (.ins (He.ga K C) dx fs)) (h : fa[i]? = some (.isi C) := by rfl) (hj : fa[j]? = some (.b (.cls C)) := by rfl) : TyX K H (.ref a) (.ref (He.ga K C)) := by
  obtain ⟨h1, h2⟩ := He.ba (T.fact i h)
  obtain ⟨h3, h4⟩ := He.ba h2
  obtain ⟨h5, h6⟩ := He.ba h4
  exact .base (.ins e (T.cls j hj) (He.eqO_ok h1) (He.eqO_ok h3) (of_decide_eq_true h5) (of_decide_eq_true h6))
theorem Tx.tyc (T : Tx fa fn K mg base) (i : Nat) {C : Str} {t : Value} {r : Bool} (n : (t == .ref (He.ga K C)) = false) (e : PySem.W.subIn K t (.ref (He.ga K C)) = some r) (h : fa[i]? = some (.tyc C) := by rfl) : PySem.W.kitOne K t (.ref (He.ga K C)) = some r := by
  obtain ⟨h1, h2⟩ := He.ba (T.fact i h)
  have h3 := of_decide_eq_true h2
  unfold PySem.W.kitOne
  rw [n, if_neg (by decide)]
  unfold PySem.W.kitCls
  dsimp only
  rw [h1, h3, if_pos (by decide)]
  exact e
theorem Tx.mroI (T : Tx fa fn K mg base) (i : Nat) {C : Str} (h : fa[i]? = some (.isi C) := by rfl) : PySem.W.mroIn K (He.ga K C) (.type "object") = some true := by
  obtain ⟨_, h2⟩ := He.ba (T.fact i h)
  obtain ⟨_, h4⟩ := He.ba h2
  obtain ⟨_, h6⟩ := He.ba h4
  exact of_decide_eq_true h6
/-! ## defs with their promises, by names -/
structure Fk (P : Program) (w : World) (K : PySem.W.Frag) (mg : Str → Option Value) (base : Heap) (x : Str) (ps : List Str) (k : Nat) (sp : Sp) (st : Stmt) (q : Str) : Prop where
  ex : ∃ (f : Addr) (fd : FuncData), FnOk P w K mg base CX0 k f fd ps sp ∧ mg x = some (.ref f) ∧ PySem.W.keepIn K (.ref f) = true ∧ Binds K fd ps [] ∧ FunD K x q (defArgs st) (defBody st) (defScope st) [] [] f fd
structure Mth (P : Program) (w : World) (K : PySem.W.Frag) (mg : Str → Option Value) (base : Heap) (C : Addr) (m : Str) (ps : List Str) (k : Nat) (sp : Sp) (st : Stmt) (q : Str) : Prop where
  ex : ∃ (f : Addr) (fd : FuncData), FnOk P w K mg base CX0 k f fd ps sp ∧ Meth K C m f ∧ Binds K fd ps [] ∧ Cls K C ∧ FunD K m q (defArgs st) (defBody st) (defScope st) [] [] f fd
structure Ini (P : Program) (w : World) (K : PySem.W.Frag) (mg : Str → Option Value) (base : Heap) (C : Addr) (ps : List Str) (k : Nat) (sp : Sp) (st : Stmt) (q : Str) : Prop where
  ex : ∃ (f : Addr) (fd : FuncData), FnOk P w K mg base CX0 k f fd ps sp ∧ Mk K C f ∧ Binds K fd ps [] ∧ FunD K "__init__" q (defArgs st) (defBody st) (defScope st) [] [] f fd
structure Prp (P : Program) (w : World) (K : PySem.W.Frag) (mg : Str → Option Value) (base : Heap) (C : Addr) (x : Str) (k : Nat) (sp : Sp) : Prop where
  ex : ∃ (p g : Addr) (fd : FuncData), FnOk P w K mg base CX0 k g fd ["self"] sp ∧ PropOf K C x p g ∧ Binds K fd ["self"] [] ∧ Cls K C
/-- what a def's proof is made of -/
def BndOk (d : Df) (ps : List Str) : Prop := ∀ (kV doc pm : Value) (an : Option Addr) (cdv ct : Value) (us : List Value), us.length = ps.length → bindArgs (PySem.W.fnOf d.name d.qual (defArgs d.st) (defBody d.st) (defScope d.st) .none kV doc pm an cdv ct) ⟨us, []⟩ = pure (ps.zip us)
def BodyOk (P : Program) (w : World) (K : PySem.W.Frag) (mg : Str → Option Value) (base : Heap) (d : Df) (N : List Str) (k : Nat) (sp : Sp) : Prop :=
  ∀ (cdv : Value) (A : Around) (outer : List Env) (s : Shared) (H : Hp) (vs : List V) (Q : VK) (E : XK), Room k (A.deeper (envOfC d.qual (defScope d.st) s.heap.objs.size (d.at_ K) cdv)) → sp vs H Q E →
      ∃ t, PSs (cxOf CX0 P w K mg base N d.qual (defScope d.st) (d.at_ K) cdv A outer s H E).nox (defBody d.st) t ∧ t { nx := fun _ H' => Q .non H', rt := Q } (start N vs) H
theorem Tx.ok (T : Tx fa fn K mg base) (i : Nat) {d : Df} {N ps : List Str} {k : Nat} {sp : Sp} (S : FnScope N ps (defScope d.st)) (hb : BndOk d ps) (len : ∀ vs H Q E, sp vs H Q E → vs.length = ps.length) (body : BodyOk P w K mg base d N k sp) (hd : fn[i]? = some d := by rfl) :
    ∃ fd, FnOk P w K mg base CX0 (k + 1) (d.at_ K) fd ps sp ∧ PySem.W.keepIn K (.ref (d.at_ K)) = true ∧ Binds K fd ps [] ∧ FunD K d.name d.qual (defArgs d.st) (defBody d.st) (defScope d.st) [] [] (d.at_ K) fd := by
  obtain ⟨fd, F⟩ := T.def_ i hd
  refine ⟨fd, F.ok S len fun cdv A outer s H vs Q E hr h => ?_, F.kp, F.bindsN hb, F⟩
  obtain ⟨t, h1, h2⟩ := body cdv A outer s H vs Q E hr h
  exact ⟨t, PSs.nox h1, h2⟩
theorem Tx.fk (T : Tx fa fn K mg base) (i j : Nat) {x q : Str} {st : Stmt} {N ps : List Str} {k : Nat} {sp : Sp} (S : FnScope N ps (defScope st)) (hb : BndOk ⟨fun K => He.ga K x, x, q, st⟩ ps) (len : ∀ vs H Q E, sp vs H Q E → vs.length = ps.length)
    (body : BodyOk P w K mg base ⟨fun K => He.ga K x, x, q, st⟩ N k sp) (hd : fn[i]? = some ⟨fun K => He.ga K x, x, q, st⟩ := by rfl) (hg : fa[j]? = some (.b (.glo x)) := by rfl) : Fk P w K mg base x ps (k + 1) sp st q := by
  obtain ⟨fd, F, kp, b, fu⟩ := T.ok i (d := ⟨fun K => He.ga K x, x, q, st⟩) S hb len body hd
  exact ⟨_, fd, F, T.glo j hg, kp, b, fu⟩
theorem Tx.mth (T : Tx fa fn K mg base) (i j c : Nat) {C m q : Str} {st : Stmt} {N ps : List Str} {k : Nat} {sp : Sp} (S : FnScope N ps (defScope st)) (hb : BndOk ⟨fun K => He.ma K (He.ga K C) m, m, q, st⟩ ps) (len : ∀ vs H Q E, sp vs H Q E → vs.length = ps.length)
    (body : BodyOk P w K mg base ⟨fun K => He.ma K (He.ga K C) m, m, q, st⟩ N k sp) (hd : fn[i]? = some ⟨fun K => He.ma K (He.ga K C) m, m, q, st⟩ := by rfl) (hg : fa[j]? = some (.b (.meth C m)) := by rfl) (hc : fa[c]? = some (.b (.cls C)) := by rfl) : Mth P w K mg base (He.ga K C) m ps (k + 1) sp st q := by
  obtain ⟨fd, F, kp, b, fu⟩ := T.ok i (d := ⟨fun K => He.ma K (He.ga K C) m, m, q, st⟩) S hb len body hd
  exact ⟨_, fd, F, T.meth j hg, b, T.cls c hc, fu⟩
theorem Tx.ini (T : Tx fa fn K mg base) (i j : Nat) {C q : Str} {st : Stmt} {N ps : List Str} {k : Nat} {sp : Sp} (S : FnScope N ps (defScope st)) (hb : BndOk ⟨fun K => He.ma K (He.ga K C) "__init__", "__init__", q, st⟩ ps) (len : ∀ vs H Q E, sp vs H Q E → vs.length = ps.length)
    (body : BodyOk P w K mg base ⟨fun K => He.ma K (He.ga K C) "__init__", "__init__", q, st⟩ N k sp) (hd : fn[i]? = some ⟨fun K => He.ma K (He.ga K C) "__init__", "__init__", q, st⟩ := by rfl) (hg : fa[j]? = some (.b (.mkr C)) := by rfl) : Ini P w K mg base (He.ga K C) ps (k + 1) sp st q := by
  obtain ⟨fd, F, kp, b, fu⟩ := T.ok i (d := ⟨fun K => He.ma K (He.ga K C) "__init__", "__init__", q, st⟩) S hb len body hd
  exact ⟨_, fd, F, T.mkr j hg, b, fu⟩
theorem Tx.prp (T : Tx fa fn K mg base) (i j c : Nat) {C m q : Str} {st : Stmt} {N : List Str} {k : Nat} {sp : Sp} (S : FnScope N ["self"] (defScope st)) (hb : BndOk ⟨pgA C m, m, q, st⟩ ["self"]) (len : ∀ vs H Q E, sp vs H Q E → vs.length = ["self"].length)
    (body : BodyOk P w K mg base ⟨pgA C m, m, q, st⟩ N k sp) (hd : fn[i]? = some ⟨pgA C m, m, q, st⟩ := by rfl) (hg : fa[j]? = some (.prop C m) := by rfl) (hc : fa[c]? = some (.b (.cls C)) := by rfl) : Prp P w K mg base (He.ga K C) m (k + 1) sp := by
  obtain ⟨fd, F, kp, b, fu⟩ := T.ok i (d := ⟨pgA C m, m, q, st⟩) S hb len body hd
  obtain ⟨p, hp⟩ := T.prop j hg
  exact ⟨p, _, fd, F, hp, b, T.cls c hc⟩
end
/-! ## calls by names -/
section
variable {X : Cx} {x m q : Str} {st : Stmt} {ps : List Str} {k j : Nat} {sp : Sp} {p pos apos : Pos} {e o : Expr} {es : List Expr} {t : TA} {ta : TE} {C : Addr}
theorem pe_f (h : Fk X.prog X.w X.K X.mg X.base x ps k sp st q) (hr : Room j X.A) (ha : PA X (e :: es) t) (hj : k ≤ j := by decide) (hg : Gl X x := by rfl) (hdb : (x == ("__debug__" : Str)) = false := by decide)
    (he : starEach (e :: es) X.env = (false, eval e X.env) :: starEach es X.env := by rfl) (hpl : (backTo pos (starEach es X.env)).any (·.1) = false := by rfl) : PE X (.Call (.Name x p) (e :: es) [] pos) (tCall sp [] E0 t) := by
  obtain ⟨f, fd, F, hm, kp, b, _⟩ := h.ex
  exact pe_call F (hr.mono hj) hg hm kp b .nil pass0 ha hdb he hpl
theorem pe_m {pl : Sem Bool} (ho : PE X o ta) (h : Mth X.prog X.w X.K X.mg X.base C m ps k sp st q) (hr : Room j X.A) (ha : PA X (e :: es) t) (hj : k ≤ j := by decide)
    (hst : starEach (e :: es) X.env = (false, eval e X.env) :: starEach es X.env := by rfl) (hpl : (backTo pos (starEach es X.env)).any (·.1) = false := by rfl)
    (ht : eval (.Call (.Attribute o m apos) (e :: es) [] pos) X.env = (do
      let ov ← eval o X.env
      standAt apos.atName
      let (f, first) ← holding [ov] (getMethod ov m pl)
      callWith pos f first (backTo pos (starEach (e :: es) X.env)) (backToKw pos (keywordEach [] X.env))) := by rfl) : PE X (.Call (.Attribute o m apos) (e :: es) [] pos) (tMeth C m sp [] E0 ta t) := by
  obtain ⟨f, fd, F, hm, b, c, _⟩ := h.ex
  exact pe_meth ho c hm F (hr.mono hj) b .nil pass0 ha hst hpl ht
theorem pe_m0 {pl : Sem Bool} (ho : PE X o ta) (h : Mth X.prog X.w X.K X.mg X.base C m ps k sp st q) (hr : Room j X.A) (hj : k ≤ j := by decide)
    (ht : eval (.Call (.Attribute o m apos) [] [] pos) X.env = (do
      let ov ← eval o X.env
      standAt apos.atName
      let (f, first) ← holding [ov] (getMethod ov m pl)
      callWith pos f first (backTo pos (starEach [] X.env)) (backToKw pos (keywordEach [] X.env))) := by rfl) : PE X (.Call (.Attribute o m apos) [] [] pos) (tMeth C m sp [] E0 ta tNil) := by
  obtain ⟨f, fd, F, hm, b, c, _⟩ := h.ex
  exact pe_meth0 ho c hm F (hr.mono hj) b .nil pass0 ht
theorem pe_mk (h : Ini X.prog X.w X.K X.mg X.base C ps k sp st q) (hm : X.mg x = some (.ref C)) (hr : Room j X.A) (ha : PA X (e :: es) t) (hj : k + 1 ≤ j := by decide) (hg : Gl X x := by rfl) (hdb : (x == ("__debug__" : Str)) = false := by decide)
    (he : starEach (e :: es) X.env = (false, eval e X.env) :: starEach es X.env := by rfl) (hpl : (backTo pos (starEach es X.env)).any (·.1) = false := by rfl) : PE X (.Call (.Name x p) (e :: es) [] pos) (tMake C sp [] E0 t) := by
  obtain ⟨f, fd, F, M, b, _⟩ := h.ex
  exact pe_make M F (hr.mono hj) hg hm b .nil pass0 ha hdb he hpl
/-- how keywords bind, by the def's own text -/
def KwOk (x q : Str) (st : Stmt) (ps ks : List Str) (n : Nat) (g : {α : Type} → List α → List α → List α) : Prop :=
  ∀ (kV doc pm : Value) (an : Option Addr) (cdv ct : Value) (us ws : List Value), us.length = n → ws.length = ks.length → bindArgs (PySem.W.fnOf x q (defArgs st) (defBody st) (defScope st) .none kV doc pm an cdv ct) ⟨us, ks.zip ws⟩ = pure (ps.zip (g us ws))
theorem kw_to {K : PySem.W.Frag} {x q : Str} {st : Stmt} {ps ks : List Str} {n : Nat} {g : {α : Type} → List α → List α → List α} {f : Addr} {fd : FuncData} (F : FunD K x q (defArgs st) (defBody st) (defScope st) [] [] f fd) (h : KwOk x q st ps ks n g) :
    ∀ (s : Shared) (us ws : List Value), us.length = n → ws.length = ks.length → BindsTo s fd ⟨us, ks.zip ws⟩ (ps.zip (g us ws)) := by
  obtain ⟨oc, od, dV, kV, doc, pm, an, cdv, ct, osl, rfl, lk, hcd, hD, hK⟩ := F.ex
  intro s us ws h1 h2
  rcases hD with ⟨_, rfl⟩ | ⟨e, _⟩
  · exact .of_eq (h kV doc pm an cdv ct us ws h1 h2)
  · exact absurd rfl e
/-- o.m(k = e, ..) -/
def tMethK (C : Addr) (m : Str) (n : Nat) (sp : Sp) (g : List V → List V → List V) (ta : TE) (tk : TA) : TE := fun σ H Q => ta σ H fun x H1 => ∃ a dx fs, x = .ref a ∧ H1 a = some (.ins C dx fs) ∧ fs.lookup m = none ∧ tk σ H1 fun zs H2 => zs.length = n ∧ sp (g [x] zs) H2 Q E0
theorem pe_mK {pl : Sem Bool} {kws : List Keyword} {tk : TA} {ks : List Str} {g : {α : Type} → List α → List α → List α} (ho : PE X o ta) (h : Mth X.prog X.w X.K X.mg X.base C m ps k sp st q) (hr : Room j X.A) (kb : KwOk m q st ps ks 1 g)
    (rel : ∀ {vs : List V} {us : List Value} {zs : List V} {ws : List Value}, Vals vs us → Vals zs ws → zs.length = ks.length → vs.length = 1 → Vals (g vs zs) (g us ws)) (hkw : PK X kws tk) (hj : k ≤ j := by decide)
    (hall : (backToKw pos (keywordEach kws X.env)).all (·.1.isSome) = true := by rfl) (hks : (backToKw pos (keywordEach kws X.env)).filterMap (·.1) = ks := by rfl)
    (hpl : ((backTo pos (starEach [] X.env)).any (·.1) || (backToKw pos (keywordEach kws X.env)).any (·.1.isNone)) = false := by rfl)
    (ht : eval (.Call (.Attribute o m apos) [] kws pos) X.env = (do
      let ov ← eval o X.env
      standAt apos.atName
      let (f, first) ← holding [ov] (getMethod ov m pl)
      callWith pos f first (backTo pos (starEach [] X.env)) (backToKw pos (keywordEach kws X.env))) := by rfl) : PE X (.Call (.Attribute o m apos) [] kws pos) (tMethK C m ks.length sp g ta tk) := by
  obtain ⟨f, fd, F, hm, b, c, fu⟩ := h.ex
  have to := kw_to fu kb
  refine ⟨fun pins s σ H Q I h => ?_⟩
  refine PySem.W.methodCall_KW (pl := pl) (thn (ho.run pins s σ H _ I h) fun u s1 ⟨x, H1, I1, rx, a, dx, fs, ex, ea, l, q1⟩ => ?_) ht
  subst ex
  obtain rfl : u = Value.ref a := rx
  refine getmeth_ok I1 ea c hm l ?_
  refine PySem.W.callWith_KW0 (h₀ := X.base) (first := [.ref a]) I.ok.mod.kin hm.kp hall (thn (hkw.run pos pins s1 σ H1 _ I1 q1) fun ws s2 ⟨zs, H2, I2, rz, hz, q2⟩ => ⟨I2.kIn, ?_⟩) hpl
  rw [hks]
  have r0 : Vals [V.ref a] [Value.ref a] := .cons rfl .nil
  have r2 := rel r0 rz hz rfl
  refine wpAny_call (codeAny_mono (F.run X.A X.stack s2 H2 ⟨[.ref a], ks.zip ws⟩ (g [.ref a] ws) (g [.ref a] zs) Q E0 (hr.mono hj) I2.env0 (to s2 [.ref a] ws rfl (rz.length.symm.trans hz)) r2 q2) fun r s' hq => ?_)
  cases r with
  | error e => exact hq.elim
  | ok fl =>
    cases fl with
    | ret u => exact I2.after hq
    | next => exact False.elim hq
    | brk => exact False.elim hq
    | cont => exact False.elim hq
theorem pe_pr (he : PE X o ta) (h : Prp X.prog X.w X.K X.mg X.base C x k sp) (hr : Room j X.A) (hj : k + 1 ≤ j := by decide) (hab : attributeBase o x X.env (eval o X.env) = eval o X.env := by rfl) : PE X (.Attribute o x pos) (tProp C sp [] E0 ta) := by
  obtain ⟨p, g, fd, F, hp, b, c⟩ := h.ex
  exact pe_prop he c hp F (hr.mono hj) b .nil pass0 hab
end
set_option Elab.async false
set_option linter.all false
set_option maxRecDepth 100000
set_option maxHeartbeats 4000000
section
variable {X : Cx}
theorem pe_globI {x : Str} {n : Int} {pos : Pos} (h : ∃ t, X.mg x = some (.int n t)) (hg : Gl X x := by rfl) (hd : (x == ("__debug__" : Str)) = false := by decide) : PE X (.Name x pos) (tC (.int n)) := by
  obtain ⟨t, e⟩ := h
  exact pe_glob hg e ⟨t, rfl⟩ hd
end
/-! ## comprehensions -/
section
variable {J : It} {n : Nat} {GG : Hp → Prop} {Y : Nat → Hp → V → Hp → Prop} {g : TG} {te : TE} {vs : List Nat} {σ : L2.St} {H1 : Hp} {Q : VK}
theorem Fr.mut {J : List Addr} {H H1 : Hp} {p : Addr} {o : HO} (a : Fr J H H1) (hp : H p = none) : Fr J H (upd H1 p o) := fun x u hx h => by
  rw [upd_ne (ne_of_none h hp)]
  exact a x u hx h
/-- a list made item by item, nothing that stood changed -/
theorem lc_pure (w : Walk J n GG Y) (f : Nat → V) (hn : n ≤ 100000) (hG : ∀ H', Fr [] H1 H' → GG H') (hY : ∀ i H' x H'', Y i H' x H'' → Fr [] H' H'')
    (he : ∀ i x H' H'' (R : VK), i < n → Fr [] H1 H' → Y i H' x H'' → (∀ H4, Fr [] H'' H4 → R (f i) H4) → g x (wipe σ vs) H'' fun σ2 H2 => wipe σ2 vs = wipe σ vs ∧ te σ2 H2 R)
    (hd : ∀ D H', H1 D = none → Fr [] H1 H' → H' D = some (.lst ((List.range n).map f)) → Q (.ref D) H') : LcJ g tYes te vs σ Q J H1 := by
  intro D hD
  refine lc_it w (fun i H' => i ≤ n ∧ Fr [] H1 H' ∧ H' D = some (.lst ((List.range i).map f))) ⟨Nat.zero_le _, (Fr.refl H1).mut hD, upd_same⟩ (fun i H' _ p => hG H' p.2.1) (fun i x H' H'' hi p y => ?_) (fun H' p => hd D H' hD p.2.1 p.2.2)
  obtain ⟨p1, p2, p3⟩ := p
  have hf := hY i H' x H'' y
  refine he i x H' H'' (fun y H4 => ∃ acc, H4 D = some (.lst acc) ∧ acc.length < sizeLine ∧ (i + 1 ≤ n ∧ Fr [] H1 (upd H4 D (.lst (acc ++ [y]))) ∧ (upd H4 D (.lst (acc ++ [y]))) D = some (.lst ((List.range (i + 1)).map f)))) hi p2 y fun H4 e4 => ?_
  have e5 : Fr [] H' H4 := hf.trans e4
  refine ⟨_, e5 _ _ (fun z => nomatch z) p3, ?_, hi, (p2.trans e5).mut hD, ?_⟩
  · rw [List.length_map, List.length_range]
    exact Nat.lt_of_lt_of_le (show i < 100001 by omega) (by decide)
  · rw [upd_same, List.range_succ, List.map_append]
    rfl
end
theorem r_iteY {c A B : Prop} [Decidable c] (hc : c) (h : A) : if decide c = true then A else B := by
  rw [if_pos (decide_eq_true hc)]
  exact h
theorem r_iteZ {c A B : Prop} [Decidable c] (hc : ¬ c) (h : B) : if decide c = true then A else B := by
  rw [if_neg (fun z => hc (of_decide_eq_true z))]
  exact h
theorem r_iteNY {c A B : Prop} [Decidable c] (hc : c) (h : B) : if (!decide c) = true then A else B := iteNS hc h
theorem r_iteNZ {c A B : Prop} [Decidable c] (hc : ¬ c) (h : A) : if (!decide c) = true then A else B := by
  rw [decide_eq_false hc]
  exact iteT h
/-- the i-th number -/
def nth (ns : List Int) (i : Nat) : Int := ns.getD i 0
theorem nth_at {ns : List Int} {i : Nat} {x : V} (h : (ns.map V.int)[i]? = some x) : x = .int (nth ns i) := by
  rw [List.getElem?_map] at h
  unfold nth
  rw [List.getD_eq_getElem?_getD]
  cases e : ns[i]? with
  | none =>
    rw [e] at h
    cases h
  | some z =>
    rw [e] at h
    exact (Option.some.inj h).symm
theorem at_nth {ns : List Int} {i : Nat} (h : i < ns.length) : (ns.map V.int)[i]? = some (.int (nth ns i)) := by
  rw [List.getElem?_map, List.getElem?_eq_getElem h]
  unfold nth
  rw [List.getD_eq_getElem?_getD, List.getElem?_eq_getElem h]
  rfl
theorem getElem_nth {ns : List Int} {i : Nat} (h : i < ns.length) : ns[i] = nth ns i := by
  unfold nth
  rw [List.getD_eq_getElem?_getD, List.getElem?_eq_getElem h]
  rfl
theorem range_nth (ns : List Int) : (List.range ns.length).map (nth ns) = ns := by
  refine List.ext_getElem (by simp) fun i h1 h2 => ?_
  rw [List.getElem_map, List.getElem_range, getElem_nth h2]
theorem range_map (ns : List Int) (g : Int → Int) : (List.range ns.length).map (fun i => V.int (g (nth ns i))) = (ns.map g).map V.int := by
  have e : (fun i => V.int (g (nth ns i))) = (V.int ∘ g) ∘ nth ns := rfl
  rw [e, ← List.map_map, range_nth, List.map_map]
/-- [g(x) for x in a], nothing that stood changed -/
theorem lc_map {K : PySem.W.Frag} {a : Addr} {te : TE} {vs : List Nat} {σ : L2.St} {H1 : Hp} {Q : VK} {k : Nat} {ns : List Int} (g : Int → Int) (ha : SqL K H1 a (ns.map V.int)) (hn : ns.length ≤ 100000) (hw : ∀ x, wipe ((wipe σ vs).set k (some x)) vs = wipe σ vs)
    (he : ∀ i H' (R : VK), i < ns.length → Fr [] H1 H' → (∀ H4, Fr [] H' H4 → R (.int (g (nth ns i))) H4) → te ((wipe σ vs).set k (some (.int (nth ns i)))) H' R)
    (hd : ∀ D H', H1 D = none → Fr [] H1 H' → H' D = some (.lst ((ns.map g).map V.int)) → Q (.ref D) H') : LcJ (gName k) tYes te vs σ Q (Itl K a) H1 := by
  have e1 : (ns.map V.int).length = ns.length := List.length_map _
  refine lc_pure (walk_list (xs := ns.map V.int)) (fun i => .int (g (nth ns i))) (by omega) (fun H' e => e.sql ha (fun z => nomatch z)) (fun i H' x H'' y => by rw [y.1]; exact Fr.refl _) (fun i x H' H'' R hi e y kR => ?_) (fun D H' hD e hD' => ?_)
  · obtain ⟨rfl, hx⟩ := y
    rw [nth_at hx]
    exact ⟨hw _, he i _ R (by omega) e kR⟩
  · rw [e1, range_map] at hD'
    exact hd D H' hD e hD'
theorem cut_last (xs : List V) : cutV xs none (some (-1)) = xs.dropLast := by
  unfold cutV
  rw [List.dropLast_eq_take, show HT.sIx xs.length 0 none = 0 from rfl, List.drop_zero, show HT.sIx xs.length xs.length (some (-1)) = ((-1 : Int) + (xs.length : Int)).toNat from rfl]
  congr 1
  omega
theorem atI_nth {ns : List Int} {i : Int} (h0 : 0 ≤ i) (h : i < ns.length) : atI (ns.map V.int) i = some (.int (nth ns i.toNat)) := by
  obtain ⟨k, rfl⟩ := Int.eq_ofNat_of_zero_le h0
  rw [atI_nat (at_nth (by omega))]
  rfl
theorem atI_end {ns : List Int} (h : 0 < ns.length) : atI (ns.map V.int) (-1) = some (.int (nth ns (ns.length - 1))) := by
  have e : ns = ns.take (ns.length - 1) ++ [nth ns (ns.length - 1)] := by
    rw [← getElem_nth (show ns.length - 1 < ns.length by omega)]
    have := List.take_append_getElem (l := ns) (i := ns.length - 1) (by omega)
    rw [this, List.take_of_length_le (by omega)]
  have e2 : ns.map V.int = (ns.take (ns.length - 1)).map V.int ++ [.int (nth ns (ns.length - 1))] := by
    rw [show [V.int (nth ns (ns.length - 1))] = [nth ns (ns.length - 1)].map V.int from rfl, ← List.map_append, ← e]
  rw [e2, atI_last]
/-- no number of the first is above its one of the second -/
def leAll (ns ms : List Int) : Bool := (List.range (min ns.length ms.length)).all fun i => decide (nth ns i ≤ nth ms i)
theorem leAll_of {ns ms : List Int} (h : ∀ i, i < ns.length → nth ns i ≤ nth ms i) : leAll ns ms = true := by
  unfold leAll
  refine List.all_eq_true.mpr fun i hi => decide_eq_true (h i ?_)
  have := List.mem_range.mp hi
  omega
/-! ## own == and != -/
section
variable {X : Cx} {C : Addr} {k : Nat}
/-- what the own == promises, any answer -/
abbrev rEqP (C : Addr) (sp : Sp) : R2 := fun x y H Q => ∃ a dx fs b dy gs, x = .ref a ∧ y = .ref b ∧ H a = some (.ins C dx fs) ∧ H b = some (.ins C dy gs) ∧ sp [.ref a, .ref b] H (fun v H' => ∃ r, v = .bl r ∧ Q (.bl r) H') E0
abbrev rNeP (C : Addr) (sp : Sp) : R2 := fun x y H Q => ∃ a dx fs b dy gs, x = .ref a ∧ y = .ref b ∧ H a = some (.ins C dx fs) ∧ H b = some (.ins C dy gs) ∧ sp [.ref a, .ref b] H (fun v H' => ∃ r, v = .bl r ∧ Q (.bl (!r)) H') E0
theorem op_eqP {sp : Sp} {st0 : Stmt} {q0 : Str} (h : Mth X.prog X.w X.K X.mg X.base C "__eq__" ["self", "other"] k sp st0 q0) (hr0 : Room (k + 1) X.A) : OpR X (compareOp .Eq) (rEqP C sp) := by
  intro pins s σ H x y v u Q I rx ry hq
  obtain ⟨f, fd, F, hm, b0, cl, _⟩ := h.ex
  obtain ⟨a, dx, fs, b, dy, gs, rfl, rfl, ha, hb, hsp⟩ := hq
  cases rx
  cases ry
  have hr : Room k X.A := hr0.mono (Nat.le_succ _)
  obtain ⟨mA, J, _⟩ := ins_get I.hok ha
  obtain ⟨mB, J', _⟩ := ins_get I.hok hb
  obtain ⟨od, J, _⟩ := J.look
  obtain ⟨od', J', _⟩ := J'.look
  obtain ⟨m, hF⟩ := I.fr
  show wpAny (model X.prog X.w) X.A (richCompare .Eq (.ref a) (.ref b)) _ _ s
  refine PySem.W.cmp_K (op := .Eq) (tb := .ref C) hr.units0 hF I.ok.mod.kin J J'.type (by simp [PySem.W.notFirst]) hm.at_ hm.fn (wpAny_call ?_)
  have hl := F.len _ _ _ _ hsp
  refine codeAny_mono (F.run X.A X.stack s H ⟨[.ref a, .ref b], []⟩ [.ref a, .ref b] [.ref a, .ref b] _ E0 hr I.env0 (by simpa using b0 s [.ref a, .ref b] I.kIn rfl) (.cons rfl (.cons rfl .nil)) hsp) fun r s' hq => ?_
  cases r with
  | error e => exact hq.elim
  | ok fl =>
    cases fl with
    | ret w =>
      obtain ⟨z, H', I', rz, r, ez, q⟩ := I.after hq
      subst ez
      cases rz
      exact ⟨.bl r, H', I', rfl, q⟩
    | next => exact False.elim hq
    | brk => exact False.elim hq
    | cont => exact False.elim hq
end
/-! x != y by object's own !=, which asks the class's == -/
section
variable {prog : Program} {w : World} {A : Around} {E : Value → Shared → Prop} {s : Shared} {K : PySem.W.Frag} {x y C f : Addr} {ox oy : Obj} {od od' : Option Obj}
open PySem.W in
theorem ne_body {Q : Fin → Shared → Prop} (hu : A.units < cLine) (X : K.In s.heap) (I : InstAt s.heap x ox C od) (he : findIn K (.ref C) "__eq__" = some (some (.ref f))) (hf : isFn K (.ref f) = true)
    (h : wpAny (model prog w) A (call (.ref f) [.ref x, .ref y]) (fun v s' => ∃ b, v = .bool b ∧ Q (.done (.ret (.bool (!b)))) s') E s) : wpAny (model prog w) A (Builtin.«object.__ne__» ⟨[.ref x, .ref y], []⟩) Q E s := by
  obtain ⟨hp, g, d, t, os⟩ := s
  unfold Builtin.«object.__ne__»
  repeat (first
    | with_reducible refine wpAny_cRoomFor hu ?_
    | (refine wpAny_bind (m := callSpecialIfBound? (.ref x) (Str.ofString "__eq__") [.ref y]) (ifBound_K X I he hf (wpAny_mono h (fun r s' hr => ?_) fun _ _ e => e)); obtain ⟨b, rfl, hq⟩ := hr)
    | (refine wpAny_bind (m := truthy (.bool _)) (wpAny_truthy_bool ?_))
    | exact hq | exact wpAny_pure hq
    | wp_step)
open PySem.W in
theorem bound_B {B id : String} {nm : Str} {M : Model} {args : List Value} {Q : Option Value → Shared → Prop} (S : Slot B nm id) (X : K.In s.heap) (I : InstAt s.heap x ox C od) (hn : findIn K (.ref C) nm = some (some (.builtin id)))
    (h : wpAny M A (call (.builtin id) (.ref x :: args)) (fun v s' => Q (some v) s') E s) : wpAny M A (callSpecialIfBound? (.ref x) nm args) Q E s := by
  have go : wpAny M A (call (.builtin id) ([.ref x] ++ args) >>= fun v => pure (some v)) Q E s := wpAny_bind (wpAny_mono h (fun v s' q => wpAny_pure q) fun _ _ q => q)
  simp only [bindSpecialIfBound?, callSpecialIfBound?]
  apply wpAny_holding
  refine wpAny_bind (wpAny_bind (wpAny_bind (I.type.here ((looks_findIn X hn).here ?_))))
  simp only [S.bind]
  apply wpAny_bind
  refine wpAny_askSetting (wpAny_ite ?_)
  split
  · refine wpAny_bind (wpAny_pure (wpAny_pure ?_))
    exact go
  · refine wpAny_tryCatch (wpAny_bind (wpAny_pure (wpAny_pure ?_)))
    exact go
open PySem.W in
theorem ne_try {Q : Option Value → Shared → Prop} (hu : A.units + 1 < cLine) (X : K.In s.heap) (I : InstAt s.heap x ox C od) (hn : findIn K (.ref C) "__ne__" = some (some (.builtin "object.__ne__"))) (hm : mroIn K C (.type "object") = some true)
    (he : findIn K (.ref C) "__eq__" = some (some (.ref f))) (hf : isFn K (.ref f) = true)
    (h : wpAny (model prog w) A.in1 (call (.ref f) [.ref x, .ref y]) (fun v s' => ∃ b, v = .bool b ∧ Q (some (.bool (!b))) s') E s) : wpAny (model prog w) A (tryCompare (.ref x) "__ne__" (.ref y)) Q E s := by
  have S := F.cmp_object.ne
  have sub : Looks (model prog w) s.heap (isInstance (.ref x) (.type "object")) true := I.type.andThen (looks_mroIn X hm)
  unfold tryCompare
  refine wpAny_bind (bound_B S X I hn ?_)
  refine wpAny_call (codeAny_call_builtin S.plain F.cmpEntry_ne (check_slot F.cmpKind_ne F.cmpSplit_ne sub (F.cmpArgs_ne _ _) ?_))
  refine ne_body (A := A.in1) hu X I he hf (wpAny_mono h (fun v s' hv => ?_) fun _ _ e => e)
  obtain ⟨b, e, q⟩ := hv
  exact ⟨b, e, wpAny_pure q⟩
open PySem.W in
theorem ne_K {h₀ : Heap} {L : Addr} {m : Str → Option Value} {Q : Value → Shared → Prop} (hu : A.units + 1 < cLine) (X : K.In s.heap) (I : InstAt s.heap x ox C od) (J : InstAt s.heap y oy C od') (hn : findIn K (.ref C) "__ne__" = some (some (.builtin "object.__ne__"))) (hm : mroIn K C (.type "object") = some true)
    (he : findIn K (.ref C) "__eq__" = some (some (.ref f))) (hf : isFn K (.ref f) = true)
    (h : wpAny (model prog w) A.in1 (call (.ref f) [.ref x, .ref y]) (fun v s' => ∃ b, v = .bool b ∧ Q (.bool (!b)) s') E s) : wpAny (model prog w) A (richCompare .NotEq (.ref x) (.ref y)) Q E s := by
  unfold richCompare
  simp only [oneThing_ref]
  refine wpAny_holding (wpAny_bind (wpAny_cRoomFor (Nat.lt_of_succ_lt hu) (wpAny_bind (I.type.here (wpAny_bind (J.type.here ?_))))))
  rw [show (Value.ref C != Value.ref C) = false by simp]
  have go := ne_try (Q := fun r s' => ∃ b, r = some (.bool b) ∧ Q (.bool b) s') hu X I hn hm he hf (wpAny_mono h (fun v s' hv => by
    obtain ⟨b, e, q⟩ := hv
    exact ⟨b, e, _, rfl, q⟩) fun _ _ e => e)
  simp only [Bool.false_eq_true, if_false]
  refine wpAny_bind (wpAny_pure ?_)
  simp only [Bool.false_eq_true, if_false]
  refine wpAny_bind (wpAny_mono go (fun r s' z => ?_) fun _ _ e => e)
  obtain ⟨b, rfl, q⟩ := z
  exact wpAny_pure q
end
section
variable {X : Cx} {C : Addr} {k : Nat}
theorem op_neP {sp : Sp} {st0 : Stmt} {q0 : Str} (h : Mth X.prog X.w X.K X.mg X.base C "__eq__" ["self", "other"] k sp st0 q0) (hn : PySem.W.findIn X.K (.ref C) "__ne__" = some (some (.builtin "object.__ne__"))) (hm : PySem.W.mroIn X.K C (.type "object") = some true) (hr0 : Room (k + 1) X.A) : OpR X (compareOp .NotEq) (rNeP C sp) := by
  intro pins s σ H x y v u Q I rx ry hq
  obtain ⟨f, fd, F, hm1, b0, cl, _⟩ := h.ex
  obtain ⟨a, dx, fs, b, dy, gs, rfl, rfl, ha, hb, hsp⟩ := hq
  cases rx
  cases ry
  have hr : Room k X.A.in1 := hr0.in1
  obtain ⟨mA, J, _⟩ := ins_get I.hok ha
  obtain ⟨mB, J', _⟩ := ins_get I.hok hb
  obtain ⟨od, J, _⟩ := J.look
  obtain ⟨od', J', _⟩ := J'.look
  show wpAny (model X.prog X.w) X.A (richCompare .NotEq (.ref a) (.ref b)) _ _ s
  refine ne_K (h₀ := X.base) (L := 0) (m := fun _ => none) (by have := hr0.units; omega) I.kIn J J' hn hm hm1.at_ hm1.fn (wpAny_call ?_)
  refine codeAny_mono (F.run X.A.in1 X.stack s H ⟨[.ref a, .ref b], []⟩ [.ref a, .ref b] [.ref a, .ref b] _ E0 hr I.env0.in1 (by simpa using b0 s [.ref a, .ref b] I.kIn rfl) (.cons rfl (.cons rfl .nil)) hsp) fun r s' hq => ?_
  cases r with
  | error e => exact hq.elim
  | ok fl =>
    cases fl with
    | ret w =>
      obtain ⟨z, H', I', rz, r, ez, q⟩ := I.after hq
      subst ez
      cases rz
      exact ⟨r, rfl, .bl (!r), H', I', rfl, q⟩
    | next => exact False.elim hq
    | brk => exact False.elim hq
    | cont => exact False.elim hq
end
set_option Elab.async false
set_option linter.all false
set_option maxRecDepth 100000
set_option maxHeartbeats 4000000
/-! ## the jar of draws: three numbers at j, good for n draws more -/
structure JarB (a b c : Int) (n : Nat) : Prop where
  a0 : 0 ≤ a
  b0 : 0 ≤ b
  b1 : b < 2 ^ 200
  c0 : 0 ≤ c
  c1 : c + n ≤ 1000000
abbrev JarO (a b c : Int) : HO := .lst [.int a, .int b, .int c]
def JarAt (H : Hp) (j : Addr) (n : Nat) : Prop := ∃ a b c, H j = some (JarO a b c) ∧ JarB a b c n
theorem JarAt.le {H : Hp} {j : Addr} {n m : Nat} (h : JarAt H j n) (l : m ≤ n) : JarAt H j m := by
  obtain ⟨a, b, c, e, q⟩ := h
  exact ⟨a, b, c, e, q.a0, q.b0, q.b1, q.c0, by have := q.c1; omega⟩
theorem JarAt.fr {H H' : Hp} {j : Addr} {n : Nat} (h : JarAt H j n) (f : Fr [] H H') : JarAt H' j n := by
  obtain ⟨a, b, c, e, q⟩ := h
  exact ⟨a, b, c, f _ _ (fun z => nomatch z) e, q⟩
theorem JarAt.ne {H : Hp} {j p : Addr} {n : Nat} (h : JarAt H j n) (hp : H p = none) : p ≠ j := fun e => by
  obtain ⟨a, b, c, e1, _⟩ := h
  rw [e, e1] at hp
  cases hp
theorem JarAt.some {H : Hp} {j : Addr} {n : Nat} (h : JarAt H j n) : ∃ o, H j = some o := by
  obtain ⟨a, b, c, e, _⟩ := h
  exact ⟨_, e⟩
/-- the known heap beside the jar -/
structure ZJ (H0 H : Hp) (j : Addr) (n : Nat) (E : List En) : Prop where
  jar : JarAt H j n
  nd : (E.map (·.2.1)).Nodup
  at_ : ∀ q ∈ E, H q.2.1 = some q.2.2
  ne : ∀ q ∈ E, q.2.1 ≠ j
  two : ∀ q ∈ E, q.1 = 2
  fresh : ∀ q ∈ E, H0 q.2.1 = none
  fr : Fr [j] H0 H
section
variable {H0 H H' : Hp} {j : Addr} {n : Nat} {E : List En}
theorem ZJ.start (h : JarAt H j n) : ZJ H H j n [] := ⟨h, List.nodup_nil, (fun _ m => nomatch m), (fun _ m => nomatch m), (fun _ m => nomatch m), (fun _ m => nomatch m), Fr.refl H⟩
theorem ZJ.get (z : ZJ H0 H j n E) {t : Nat} {a : Addr} {o : HO} (h : (t, a, o) ∈ E) : H a = some o := z.at_ _ h
theorem ZJ.keep (z : ZJ H0 H j n E) {a : Addr} {o : HO} (h : H0 a = some o) (n : a ≠ j) : H a = some o := z.fr _ _ (fun m => by
  rcases List.mem_cons.mp m with e | m
  · exact n e
  · cases m) h
theorem ZJ.none (z : ZJ H0 H j n E) {p : Addr} (hp : H p = none) : H0 p = none := by
  cases e : H0 p with
  | none => rfl
  | some o =>
    rw [z.keep e (z.jar.ne hp)] at hp
    cases hp
theorem ZJ.alloc (z : ZJ H0 H j n E) {p : Addr} (o : HO) (hp : H p = Option.none) : ZJ H0 (upd H p o) j n ((2, p, o) :: E) := by
  have hn : ∀ q ∈ E, q.2.1 ≠ p := fun q hq => ne_of_none (z.at_ q hq) hp
  have hj := z.jar.ne hp
  refine ⟨z.jar.fr ((Fr.refl H).new hp), ?_, fun q hq => ?_, fun q hq => ?_, fun q hq => ?_, fun q hq => ?_, z.fr.new hp⟩
  · rw [List.map_cons, List.nodup_cons]
    refine ⟨fun m => ?_, z.nd⟩
    obtain ⟨q, hq, e⟩ := List.mem_map.mp m
    exact hn q hq e
  all_goals rcases List.mem_cons.mp hq with rfl | hq
  · exact upd_same
  · rw [upd_ne (hn q hq)]
    exact z.at_ q hq
  · exact hj
  · exact z.ne q hq
  · rfl
  · exact z.two q hq
  · exact z.none hp
  · exact z.fresh q hq
theorem ZJ.other (z : ZJ H0 H j n E) {i k : Nat} {q r : En} (hi : E[i]? = some q) (hk : E[k]? = some r) (h : k ≠ i) : r.2.1 ≠ q.2.1 := fun e => by
  have h1 : (E.map (·.2.1))[i]? = some q.2.1 := by rw [List.getElem?_map, hi] <;> rfl
  have h2 : (E.map (·.2.1))[k]? = some r.2.1 := by rw [List.getElem?_map, hk] <;> rfl
  rw [e] at h2
  obtain ⟨g1, e1⟩ := List.getElem?_eq_some_iff.mp h1
  obtain ⟨g2, e2⟩ := List.getElem?_eq_some_iff.mp h2
  exact h ((List.getElem_inj z.nd).mp (e2.trans e1.symm))
/-- a store to the i-th entry -/
theorem ZJ.set (z : ZJ H0 H j n E) (i : Nat) {t : Nat} {a : Addr} {o : HO} (o' : HO) (hi : E[i]? = some (t, a, o)) : ZJ H0 (upd H a o') j n (E.set i (t, a, o')) := by
  have hin := List.mem_of_getElem? hi
  have haj := z.ne _ hin
  refine ⟨?_, ?_, fun q hq => ?_, fun q hq => ?_, fun q hq => ?_, fun q hq => ?_, ?_⟩
  · obtain ⟨x, y, c, e, b⟩ := z.jar
    exact ⟨x, y, c, by rw [upd_ne haj.symm]; exact e, b⟩
  · rw [map_set_same hi]
    exact z.nd
  · rcases mem_set_of hq with rfl | ⟨k, hk, e⟩
    · exact upd_same
    · rw [upd_ne (z.other hi e hk)]
      exact z.at_ q (List.mem_of_getElem? e)
  · rcases mem_set_of hq with rfl | ⟨k, hk, e⟩
    · exact haj
    · exact z.ne q (List.mem_of_getElem? e)
  · rcases mem_set_of hq with rfl | ⟨k, hk, e⟩
    · exact z.two (t, a, o) hin
    · exact z.two q (List.mem_of_getElem? e)
  · rcases mem_set_of hq with rfl | ⟨k, hk, e⟩
    · exact z.fresh (t, a, o) hin
    · exact z.fresh q (List.mem_of_getElem? e)
  · exact z.fr.mut (z.fresh _ hin)
/-- behind draws -/
theorem ZJ.dips (z : ZJ H0 H j n E) {m : Nat} (f : Fr [j] H H') (h : JarAt H' j m) : ZJ H0 H' j m E :=
  ⟨h, z.nd, fun q hq => f _ _ (fun s => by
    rcases List.mem_cons.mp s with e | s
    · exact z.ne q hq e
    · cases s) (z.at_ q hq), z.ne, z.two, z.fresh, z.fr.trans f⟩
/-- behind a call that draws and makes N -/
theorem ZJ.call (z : ZJ H0 H j n E) {m : Nat} {N : List (Addr × HO)} (f : Fr [j] H H') (h : JarAt H' j m) (w : New H H' N) : ZJ H0 H' j m (N.map (fun q => ((2, q.1, q.2) : En)) ++ E) := by
  have y := z.dips f h
  refine ⟨h, ?_, fun q hq => ?_, fun q hq => ?_, fun q hq => ?_, fun q hq => ?_, y.fr⟩
  · rw [List.map_append, List.nodup_append]
    refine ⟨?_, z.nd, fun x hx r hr e => ?_⟩
    · rw [List.map_map]
      exact w.1.1
    · obtain ⟨q, hq, rfl⟩ := List.mem_map.mp hx
      obtain ⟨q', hq', rfl⟩ := List.mem_map.mp hq
      obtain ⟨u, hu, rfl⟩ := List.mem_map.mp hr
      exact ne_of_none (z.at_ u hu) (w.2 q' hq') e.symm
  all_goals rcases List.mem_append.mp hq with hq | hq
  · obtain ⟨q', hq', rfl⟩ := List.mem_map.mp hq
    exact w.1.2 q' hq'
  · exact y.at_ q hq
  · obtain ⟨q', hq', rfl⟩ := List.mem_map.mp hq
    exact z.jar.ne (w.2 q' hq')
  · exact z.ne q hq
  · obtain ⟨q', hq', rfl⟩ := List.mem_map.mp hq
    rfl
  · exact z.two q hq
  · obtain ⟨q', hq', rfl⟩ := List.mem_map.mp hq
    exact z.none (w.2 q' hq')
  · exact z.fresh q hq
theorem ZJ.call0 (z : ZJ H0 H j n E) {N : List (Addr × HO)} (f : Fr [] H H') (w : New H H' N) : ZJ H0 H' j n (N.map (fun q => ((2, q.1, q.2) : En)) ++ E) := z.call f.up0 (z.jar.fr f) w
theorem new1 {D : Addr} {o : HO} (h0 : H D = Option.none) (h1 : H' D = some o) : New H H' [(D, o)] := by
  refine ⟨⟨List.nodup_cons.mpr ⟨(fun m => nomatch m), List.nodup_nil⟩, fun q hq => ?_⟩, fun q hq => ?_⟩
  all_goals
    rcases List.mem_cons.mp hq with rfl | hq
    · assumption
    · cases hq
theorem ZJ.comp (z : ZJ H0 H j n E) {D : Addr} {o : HO} (f : Fr [] H H') (h0 : H D = Option.none) (h1 : H' D = some o) : ZJ H0 H' j n ((2, D, o) :: E) := z.call0 (N := [(D, o)]) f (new1 h0 h1)
theorem ZJ.same (z : ZJ H0 H j n E) (f : Fr [] H H') : ZJ H0 H' j n E := z.dips f.up0 (z.jar.fr f)
theorem ZJ.sub (z : ZJ H0 H j n E) {E' : List En} (s : E'.Sublist E) : ZJ H0 H j n E' :=
  ⟨z.jar, (s.map _).nodup z.nd, fun q hq => z.at_ q (s.subset hq), fun q hq => z.ne q (s.subset hq), fun q hq => z.two q (s.subset hq), fun q hq => z.fresh q (s.subset hq), z.fr⟩
theorem ZJ.perm (z : ZJ H0 H j n E) {E' : List En} (s : E'.Perm E) : ZJ H0 H j n E' :=
  ⟨z.jar, (s.map _).nodup_iff.mpr z.nd, fun q hq => z.at_ q (s.subset hq), fun q hq => z.ne q (s.subset hq), fun q hq => z.two q (s.subset hq), fun q hq => z.fresh q (s.subset hq), z.fr⟩
theorem ZJ.le (z : ZJ H0 H j n E) {m : Nat} (l : m ≤ n) : ZJ H0 H j m E := ⟨z.jar.le l, z.nd, z.at_, z.ne, z.two, z.fresh, z.fr⟩
theorem ZJ.made (z : ZJ H0 H j n E) {N : List (Addr × HO)} (s : (N.map (fun q => ((2, q.1, q.2) : En))).Sublist E) : New H0 H N := by
  refine ⟨⟨?_, fun q hq => z.at_ (2, q.1, q.2) (s.subset (List.mem_map.mpr ⟨q, hq, rfl⟩))⟩, fun q hq => z.fresh (2, q.1, q.2) (s.subset (List.mem_map.mpr ⟨q, hq, rfl⟩))⟩
  have := (s.map (·.2.1)).nodup z.nd
  rw [List.map_map] at this
  exact this
theorem pick_mem {E : List En} : ∀ (is : List Nat) (N : List (Addr × HO)), is.map (fun i => E[i]?) = N.map (fun q => some ((2, q.1, q.2) : En)) → ∀ q ∈ N, ∃ i ∈ is, E[i]? = some (2, q.1, q.2)
  | [], [], _, q, hq => nomatch hq
  | [], _ :: _, e, _, _ => by cases e
  | _ :: _, [], e, _, _ => by cases e
  | i :: is, p :: N, e, q, hq => by
    rw [List.map_cons, List.map_cons, List.cons.injEq] at e
    rcases List.mem_cons.mp hq with rfl | hq
    · exact ⟨i, List.mem_cons_self, e.1⟩
    · obtain ⟨k, hk, h⟩ := pick_mem is N e.2 q hq
      exact ⟨k, List.mem_cons_of_mem _ hk, h⟩
theorem pick_nd {H0 H : Hp} {j : Addr} {n : Nat} {E : List En} (z : ZJ H0 H j n E) : ∀ (is : List Nat) (N : List (Addr × HO)), is.Nodup → is.map (fun i => E[i]?) = N.map (fun q => some ((2, q.1, q.2) : En)) → (N.map (·.1)).Nodup
  | [], [], _, _ => List.nodup_nil
  | [], _ :: _, _, e => by cases e
  | _ :: _, [], _, e => by cases e
  | i :: is, p :: N, nd, e => by
    rw [List.map_cons, List.map_cons, List.cons.injEq] at e
    rw [List.nodup_cons] at nd
    rw [List.map_cons, List.nodup_cons]
    refine ⟨fun m => ?_, pick_nd z is N nd.2 e.2⟩
    obtain ⟨q, hq, e1⟩ := List.mem_map.mp m
    obtain ⟨k, hk, h⟩ := pick_mem is N e.2 q hq
    exact z.other e.1 h (fun x => nd.1 (x ▸ hk)) e1
/-- of what is known the entries at these places -/
theorem ZJ.pick {H0 H : Hp} {j : Addr} {n : Nat} {E : List En} (z : ZJ H0 H j n E) {N : List (Addr × HO)} (is : List Nat) (e : is.map (fun i => E[i]?) = N.map (fun q => some ((2, q.1, q.2) : En))) (nd : is.Nodup := by decide) : New H0 H N :=
  ⟨⟨pick_nd z is N nd e, fun q hq => by
    obtain ⟨i, _, h⟩ := pick_mem is N e q hq
    exact z.at_ _ (List.mem_of_getElem? h)⟩, fun q hq => by
    obtain ⟨i, _, h⟩ := pick_mem is N e q hq
    exact z.fresh _ (List.mem_of_getElem? h)⟩
end
/-- [draw for _ in range(n)], c draws an item -/
theorem lc_draw {J : It} (p : Int → Prop) {n c m : Nat} {f : Nat → V} {g : TG} {te : TE} {vs : List Nat} {σ : L2.St} {Q : VK} {H0 H1 : Hp} {j : Addr} {E : List En} (w : Walk J n (fun _ => True) (YFn f)) (hn : n ≤ 10000) (z : ZJ H0 H1 j (m + c * n) E)
    (he : ∀ (i : Nat) (H' : Hp) (D : Addr) (ns : List Int) (R : VK), i < n → ns.length = i → ZJ H0 H' j (m + c * (n - i)) ((2, D, .lst (ns.map V.int)) :: E) → (∀ (x : Int) (G : Hp), p x → ZJ H0 G j (m + c * (n - (i + 1))) ((2, D, .lst (ns.map V.int)) :: E) → R (.int x) G) →
      g (f i) (wipe σ vs) H' fun σ2 H2 => wipe σ2 vs = wipe σ vs ∧ te σ2 H2 R)
    (hd : ∀ (D : Addr) (ns : List Int) (H' : Hp), ns.length = n → (∀ x ∈ ns, p x) → ZJ H0 H' j m ((2, D, .lst (ns.map V.int)) :: E) → Q (.ref D) H') : LcJ g tYes te vs σ Q J H1 := by
  intro D hD
  refine lc_it w (fun i H' => i ≤ n ∧ ∃ ns : List Int, ns.length = i ∧ (∀ x ∈ ns, p x) ∧ ZJ H0 H' j (m + c * (n - i)) ((2, D, .lst (ns.map V.int)) :: E)) ⟨Nat.zero_le _, [], rfl, (fun _ m => nomatch m), z.alloc (.lst []) hD⟩ (fun i H' _ _ => trivial) (fun i x H' H'' hi p y => ?_) (fun H' p => ?_)
  · obtain ⟨p1, ns, p2, pp, p3⟩ := p
    obtain ⟨rfl, rfl⟩ := y
    refine he i H'' D ns (fun y H4 => ∃ acc, H4 D = some (.lst acc) ∧ acc.length < sizeLine ∧ (i + 1 ≤ n ∧ ∃ ns : List Int, ns.length = i + 1 ∧ (∀ x ∈ ns, p x) ∧ ZJ H0 (upd H4 D (.lst (acc ++ [y]))) j (m + c * (n - (i + 1))) ((2, D, .lst (ns.map V.int)) :: E))) hi p2 p3 fun x G px q => ?_
    refine ⟨ns.map V.int, q.get (.head _), ?_, hi, ns ++ [x], by rw [List.length_append, p2] <;> rfl, (fun y hy => (List.mem_append.mp hy).elim (pp y) fun h => (List.mem_singleton.mp h) ▸ px), ?_⟩
    · rw [List.length_map, p2]
      exact Nat.lt_of_lt_of_le (show i < 100001 by omega) (by decide)
    · rw [List.map_append]
      exact q.set 0 _ rfl
  · obtain ⟨p1, ns, p2, pp, p3⟩ := p
    exact hd D ns H' p2 pp (by
      rw [Nat.sub_self] at p3
      exact p3)
theorem min_ex : ∀ {ns : List Int}, 0 < ns.length → ∃ m, m ∈ ns ∧ ∀ y, y ∈ ns → m ≤ y
  | [], h => absurd h (by decide)
  | [a], _ => ⟨a, List.mem_cons_self, fun y hy => by rcases List.mem_cons.mp hy with rfl | hy; exact Int.le_refl _; cases hy⟩
  | a :: b :: r, _ => by
    obtain ⟨m, h1, h2⟩ := min_ex (ns := b :: r) (by simp)
    rcases Int.le_total a m with h | h
    · exact ⟨a, List.mem_cons_self, fun y hy => by
        rcases List.mem_cons.mp hy with rfl | hy
        · exact Int.le_refl _
        · exact Int.le_trans h (h2 y hy)⟩
    · exact ⟨m, List.mem_cons_of_mem _ h1, fun y hy => by
        rcases List.mem_cons.mp hy with rfl | hy
        · exact h
        · exact h2 y hy⟩
theorem max_ex : ∀ {ns : List Int}, 0 < ns.length → ∃ m, m ∈ ns ∧ ∀ y, y ∈ ns → y ≤ m
  | [], h => absurd h (by decide)
  | [a], _ => ⟨a, List.mem_cons_self, fun y hy => by rcases List.mem_cons.mp hy with rfl | hy; exact Int.le_refl _; cases hy⟩
  | a :: b :: r, _ => by
    obtain ⟨m, h1, h2⟩ := max_ex (ns := b :: r) (by simp)
    rcases Int.le_total m a with h | h
    · exact ⟨a, List.mem_cons_self, fun y hy => by
        rcases List.mem_cons.mp hy with rfl | hy
        · exact Int.le_refl _
        · exact Int.le_trans (h2 y hy) h⟩
    · exact ⟨m, List.mem_cons_of_mem _ h1, fun y hy => by
        rcases List.mem_cons.mp hy with rfl | hy
        · exact h
        · exact h2 y hy⟩
theorem r_minM {K : PySem.W.Frag} {H : Hp} {Q : VK} {a : Addr} {ns : List Int} {m : Int} (h : SqL K H a (ns.map V.int)) (h1 : m ∈ ns) (h2 : ∀ y, y ∈ ns → m ≤ y) (q : Q (.int m) H) : rMin K [.ref a] H Q :=
  ⟨a, ns, rfl, h, List.length_pos_of_mem h1, fun m' g1 g2 => by rw [Int.le_antisymm (g2 _ h1) (h2 _ g1)]; exact q⟩
theorem r_maxM {K : PySem.W.Frag} {H : Hp} {Q : VK} {a : Addr} {ns : List Int} {m : Int} (h : SqL K H a (ns.map V.int)) (h1 : m ∈ ns) (h2 : ∀ y, y ∈ ns → y ≤ m) (q : Q (.int m) H) : rMax K [.ref a] H Q :=
  ⟨a, ns, rfl, h, List.length_pos_of_mem h1, fun m' g1 g2 => by rw [Int.le_antisymm (h2 _ g1) (g2 _ h1)]; exact q⟩
/-- [c for _ in a] -/
theorem lc_const {K : PySem.W.Frag} {a : Addr} {te : TE} {vs : List Nat} {σ : L2.St} {H1 : Hp} {Q : VK} {k : Nat} {ns : List Int} (c : Int) (ha : SqL K H1 a (ns.map V.int)) (hn : ns.length ≤ 100000) (hw : ∀ x, wipe ((wipe σ vs).set k (some x)) vs = wipe σ vs)
    (he : ∀ x H' (R : VK), Fr [] H1 H' → (∀ H4, Fr [] H' H4 → R (.int c) H4) → te ((wipe σ vs).set k (some (.int x))) H' R)
    (hd : ∀ D H', H1 D = none → Fr [] H1 H' → H' D = some (.lst ((ns.map fun _ => c).map V.int)) → Q (.ref D) H') : LcJ (gName k) tYes te vs σ Q (Itl K a) H1 :=
  lc_map (fun _ => c) ha hn hw (fun i H' R _ e kR => he _ H' R e kR) hd
theorem nth_const {ns : List Int} {c : Int} {i : Nat} (h : i < ns.length) : nth (ns.map fun _ => c) i = c := by
  unfold nth
  rw [List.getD_eq_getElem?_getD, List.getElem?_map, List.getElem?_eq_getElem h]
  rfl
theorem nth_map {ns : List Int} {g : Int → Int} {i : Nat} (h : i < ns.length) : nth (ns.map g) i = g (nth ns i) := by
  unfold nth
  rw [List.getD_eq_getElem?_getD, List.getD_eq_getElem?_getD, List.getElem?_map, List.getElem?_eq_getElem h]
  rfl
theorem nth_mem {ns : List Int} {i : Nat} (h : i < ns.length) : nth ns i ∈ ns := by
  rw [← getElem_nth h]
  exact List.getElem_mem h
set_option Elab.async false
set_option linter.all false
set_option maxRecDepth 100000
set_option maxHeartbeats 2000000
/-! ## enumerate(list, start=c) -/
def ItS (K : PySem.W.Frag) (c : Int) (a : Addr) : It where
  go := (Ite K a).go
  stop := (Ite K a).stop
  yld := fun i H v H' => ∃ (T : Addr) (x : V), v = .ref T ∧ H T = none ∧
    H' = upd H T (.tup [.int (c + (i : Int)), x]) ∧
    ∀ xs, SqL K H a xs → xs[i]? = some x
theorem turn_enumS {P : Program} {w : World} {K : PySem.W.Frag} {elts : List Expr} {kk : Nat} {tpos : Pos} (c : Int) (a e it : Addr) :
    Turn P w K (.Tuple elts kk tpos) (ItS K c a) [e, it] e fun i h =>
      e ≠ it ∧ a ≠ it ∧ h.IsListIter it a i ∧ ∃ u, IsEnum h e it (c + (i : Int)) u where
  mem := List.mem_cons_self ..
  obj := fun i h ⟨_, _, ⟨o, ho, _, hd⟩, u, he⟩ b hb => by
    rcases List.mem_cons.mp hb with rfl | hb
    · exact ⟨_, he, fun v q => nomatch q⟩
    · obtain rfl := List.mem_singleton.mp hb
      exact ⟨o, ho, fun v q => by
        rw [hd] at q
        cases q⟩
  keep := fun i h h' ⟨n1, n2, hi, u, he⟩ k =>
    ⟨n1, n2, hi.at fun o q => k it (by simp) o q, u, k e (by simp) _ he⟩
  item := by
    intro X hP hw hK hc i pins s σ H E I hf st hg
    subst hP hw hK
    obtain ⟨n1, n2, hi, u0, he⟩ := st
    obtain ⟨xs, x, hq, hx⟩ := hg
    obtain ⟨its, rv, p, hz⟩ := I.list hq
    obtain ⟨u, hu, ru⟩ := rv.get hx
    have lt : i < its.toArray.size := by
      have := (List.getElem?_eq_some_iff.mp hu).1
      simpa using this
    have D := Draws.list (prog := X.prog) (w := X.w) (A := X.A.in1) (I.ok.hd hc) it a n2 its.toArray
    have hel : e < s.heap.objs.size := Heap.lt_size he
    have hil : it < s.heap.objs.size := by
      obtain ⟨_, q, _⟩ := hi
      exact Heap.lt_size q
    have nea : e ≠ a := fun q => by
      obtain ⟨o, ho, hc, _⟩ := p.isList
      rw [← q, he] at ho
      obtain rfl := Option.some.inj ho
      exact absurd (show Value.type "enumerate" = Value.type "list" from hc) (by decide)
    refine wpAny_pyNext_enum_itemC D he ⟨hi, p.isList⟩ lt n1 (by simp [n1, nea]) fun y h' tk hy ho hs hT hsz hk => ?_
    obtain rfl : u = y := by
      have hy : its.toArray[i]? = some y := hy
      rw [List.getElem?_toArray, hu] at hy
      exact Option.some.inj hy
    refine ⟨_, rfl, wpAny_letOwnedTupleGo_enum (s := { s with heap := h', toks := tk + 1 }) ho fun h'' he' sb => ?_⟩
    have hT2 : h''.get? s.heap.objs.size = some { cls := .type "tuple", data := .seq #[.int (c + (i : Int)) tk, u] } := (sb.2 _ (Nat.ne_of_gt hel)).trans hT
    have new : ObjOk X.prog X.w (upd H s.heap.objs.size (.tup [.int (c + (i : Int)), x])) h'' s.heap.objs.size (.tup [.int (c + (i : Int)), x]) :=
      ⟨by show 2 ≤ sizeLine; decide, [.int (c + (i : Int)) tk, u], .cons ⟨_, rfl⟩ (.cons ru .nil), ⟨_, hT2, rfl, _, rfl⟩⟩
    have same : ∀ b o, b ∉ [e, it] → s.heap.get? b = some o → h''.get? b = some o := fun b o hb q => by
      have b1 : b ≠ e := fun z => hb (by simp [z])
      have b2 : b ≠ it := fun z => hb (by simp [z])
      exact (sb.2 b b1).trans (hk b o b1 b2 q)
    have I1 : Inv X pins σ (upd H s.heap.objs.size (.tup [.int (c + (i : Int)), x])) { s with heap := h'', toks := tk + 1 } := I.turnedNew (ch := [e, it]) same hf (Nat.le_refl _) new
    refine ⟨.ref s.heap.objs.size, _, I1, rfl, ⟨_, x, rfl, I.hok.fresh (Nat.le_refl _), rfl, fun ys hy => ?_⟩, ⟨n1, n2, hs.1.at fun o q => (sb.2 it (Ne.symm n1)).trans q, u, ?_⟩, fun b hb => ?_⟩
    · rw [I.list_inj hy hq]
      exact hx
    · rw [show c + ((i + 1 : Nat) : Int) = c + (i : Int) + 1 by omega]
      exact he'
    · have hb' : b < s.heap.objs.size := by
        rcases List.mem_cons.mp hb with rfl | hb
        · exact hel
        · obtain rfl := List.mem_singleton.mp hb
          exact hil
      rw [upd_ne (Nat.ne_of_lt hb')]
      exact (hf b hb).1
  done := by
    intro X hP hw hK hc i pins s σ H E I hf st hg
    subst hP hw hK
    obtain ⟨n1, n2, hi, u0, he⟩ := st
    obtain ⟨xs, hq, hx⟩ := hg
    obtain ⟨its, rv, p, hz⟩ := I.list hq
    have f := hf it (by simp)
    have hl := rv.length
    have hi' : s.heap.IsListIter it a i := hi
    have ty : s.TypeIs (.ref e) "enumerate" := ⟨_, he, rfl⟩
    have none : its.toArray[i]? = none := Array.getElem?_eq_none (by simp; omega)
    unfold pyNext
    refine wpAny_bind (wpAny_attempt ?_)
    refine wpAny_callSpecial?_slot (name := Str.ofString "__next__") ty F.slot_enumerate_next ?_
    refine wpAny_call_entry F.slot_enumerate_next ty F.entry_enumerate_next ?_ (F.args_enumerate_next_1 _)
    refine wpAny_bind (m := field (.ref e) 2) (wpAny_field he rfl (x := .ref it) rfl ?_)
    refine wpAny_bind (wpAny_nextOf_list_end (I.ok.hd hc) hi' p.isList none fun h' y eb ⟨o, ho, hs⟩ => ?_)
    refine wpAny_bind (wpAny_isInstance (b := true) ⟨o, ho, hs⟩ isSubtype_stop (wpAny_pure ⟨rfl, ?_⟩))
    exact I.turned (t' := s.toks) (fun b o hb q => eb b o hb q) f.1 f.2.1 f.2.2.2.1 f.2.2.2.2.1 f.2.2.2.2.2
  self := fun A i s Q E ⟨_, _, _, u, he⟩ h => wpAny_pyIter_enum he h
/-- reading: enumerate(e, start=c) -/
def iEnumS (K : PySem.W.Frag) (c : Int) (ta : TE) : TI := fun σ H R => ta σ H fun v H1 => ∃ a xs, v = .ref a ∧ SqL K H1 a xs ∧ R (ItS K c a) H1
theorem pi_enumS {X : Cx} {e : Expr} {ta : TE} {p pos tpos cp kp : Pos} {elts : List Expr} {kk ck : Nat} {n : Int} (hg : Gl X "enumerate") (hm : X.mg "enumerate" = none) (he : PE X e ta) (hn : -1000 < n ∧ n < 1000 := by decide) (hs : starEach [e] X.env = [(false, eval e X.env)] := by rfl) :
    PI X (.Tuple elts kk tpos) (.Call (.Name "enumerate" p) [e] [⟨some "start", .Constant (.int n) ck cp, kp⟩] pos) (iEnumS X.K n ta) := by
  refine ⟨fun pins s σ H R I h => ?_⟩
  refine wpAny_Call_Name_kw (ld_blt I hg hm boot_enumerate ?_)
  refine PySem.W.callWith_of (P := fun _ => True) (by rw [hs] <;> rfl) (fun h _ => ⟨.machine, .inr (.inl rfl), .now⟩) ?_
  refine evalArgs_kw2 (by rfl) ?_ hs
  have ha : tCons ta tNil σ H fun vs H1 => ∃ a xs, vs = [.ref a] ∧ SqL X.K H1 a xs ∧ R (ItS X.K n a) H1 := by
    show ta σ H _
    have eq : (fun v H1 => ∃ a xs, [v] = [V.ref a] ∧ SqL X.K H1 a xs ∧ R (ItS X.K n a) H1) = fun v H1 => ∃ a xs, v = V.ref a ∧ SqL X.K H1 a xs ∧ R (ItS X.K n a) H1 := by
      funext v H1
      simp
    exact eq ▸ h
  refine thn ((pa_cons he pa_nil hs).run pos pins s σ H _ I ha) fun us s1 ⟨vs, H1, I1, r1, a, xs, ev, hq, q⟩ => ?_
  subst ev
  cases r1 with
  | cons r rr =>
    cases rr
    cases r
    obtain ⟨its, rv, p', hz⟩ := I1.list hq
    refine kwAll_cons (wpAny_Constant_int (kwAll_nil ⟨trivial, ?_⟩))
    show wpAny _ _ (call (.type "enumerate") [.ref a] [(Str.ofString "start", .int n s1.toks)]) _ _ _
    refine enum_begins_start (begins_list a its.toArray) p'.isList (by omega) (by omega) fun h' he ho hsz hk => wpAny_pyIter_enum he ?_
    have I2 : Inv X pins σ H1 { s1 with heap := h', toks := s1.toks + 1 } := I1.kept (t' := s1.toks + 1) hk
    have al : a < s1.heap.objs.size := by
      obtain ⟨o, q, _⟩ := p'.isList
      exact Heap.lt_size q
    refine ⟨s1.heap.objs.size + 1, [s1.heap.objs.size + 1, s1.heap.objs.size], _, _, H1, rfl, I2, turn_enumS n a (s1.heap.objs.size + 1) s1.heap.objs.size, ⟨Nat.succ_ne_self _, Nat.ne_of_lt al, ⟨_, ho, rfl, rfl⟩, .none, ?_⟩, fun b hb => ?_, q⟩
    · rw [show n + ((0 : Nat) : Int) = n by omega]
      exact he
    · have le : s1.heap.objs.size ≤ b := by
        rcases List.mem_cons.mp hb with rfl | hb
        · exact Nat.le_add_right ..
        · obtain rfl := List.mem_singleton.mp hb
          exact Nat.le_refl _
      exact I1.fpOk le (I1.hok.fresh le)
theorem walk_enumS {K : PySem.W.Frag} {a : Addr} {xs : List V} {c : Int} : Walk (ItS K c a) xs.length (fun H => SqL K H a xs) (YPair (fun i => some (.int (c + (i : Int)))) (fun i => xs[i]?)) := by
  refine ⟨fun i _ hi q => ⟨xs, xs[i], q, by simp [hi]⟩, fun _ q => ⟨xs, q, Nat.le_refl _⟩, fun i H v H' _ q ⟨T, x, e1, e2, e3, e4⟩ => ?_⟩
  exact ⟨T, .int (c + (i : Int)), x, e1, e2, e3, rfl, e4 xs q⟩
theorem r_ienumS {K : PySem.W.Frag} {c : Int} {te : TE} {σ : L2.St} {H : Hp} {R : It → Hp → Prop} (h : te σ H fun v H1 => ∃ a xs, v = .ref a ∧ SqL K H1 a xs ∧ R (ItS K c a) H1) : iEnumS K c te σ H R := h
theorem r_exenS {K : PySem.W.Frag} {H : Hp} {a : Addr} {xs : List V} {P : Addr → Prop} (h1 : SqL K H a xs) (h : P a) : ∃ c ys, V.ref a = .ref c ∧ SqL K H c ys ∧ P c := ⟨a, xs, rfl, h1, h⟩
theorem r_methK {σ : L2.St} {H : Hp} {Q : VK} {C : Addr} {m : Str} {n : Nat} {sp : Sp} {g : List V → List V → List V} {ta : TE} {tk : TA}
    (h : ta σ H fun x H1 => ∃ a dx fs, x = .ref a ∧ H1 a = some (.ins C dx fs) ∧ fs.lookup m = none ∧ tk σ H1 fun zs H2 => zs.length = n ∧ sp (g [x] zs) H2 Q E0) : tMethK C m n sp g ta tk σ H Q := h
/-- [g(c + i, x) for i, x in enumerate(a, start=c)], nothing that stood changed -/
theorem lc_enumS {K : PySem.W.Frag} {a : Addr} {te : TE} {vs : List Nat} {σ : L2.St} {H1 : Hp} {Q : VK} {k l : Nat} {c : Int} {ns : List Int} (g : Nat → Int → Int) (ha : SqL K H1 a (ns.map V.int)) (hn : ns.length ≤ 100000)
    (hw : ∀ x y, wipe (((wipe σ vs).set k (some x)).set l (some y)) vs = wipe σ vs)
    (he : ∀ i H' (R : VK), i < ns.length → Fr [] H1 H' → (∀ H4, Fr [] H' H4 → R (.int (g i (nth ns i))) H4) → te (((wipe σ vs).set k (some (.int (c + (i : Int))))).set l (some (.int (nth ns i)))) H' R)
    (hd : ∀ D H', H1 D = none → Fr [] H1 H' → H' D = some (.lst (((List.range ns.length).map fun i => g i (nth ns i)).map V.int)) → Q (.ref D) H') : LcJ (gTup K 2 (gCons (gName k) (gCons (gName l) gNil))) tYes te vs σ Q (ItS K c a) H1 := by
  have e1 : (ns.map V.int).length = ns.length := List.length_map _
  refine lc_pure (walk_enumS (xs := ns.map V.int)) (fun i => .int (g i (nth ns i))) (by omega) (fun H' e => e.sql ha (fun z => nomatch z)) (fun i H' x H'' y => by
    obtain ⟨T, x1, x2, _, h0, rfl, _⟩ := y
    exact (Fr.refl _).new h0) (fun i x H' H'' R hi e y kR => ?_) (fun D H' hD e hD' => ?_)
  · obtain ⟨T, x1, x2, rfl, h0, rfl, g1, g2⟩ := y
    obtain rfl := Option.some.inj g1
    obtain rfl := nth_at g2
    refine r_gtup (SqT.of upd_same) rfl (r_gcons (r_name (r_gcons (r_name (r_gnil ⟨hw _ _, ?_⟩)))))
    exact he i _ R (by omega) (e.trans ((Fr.refl _).new h0)) kR
  · rw [e1] at hD'
    exact hd D H' hD e (by rw [List.map_map]; exact hD')
/-! ## a comprehension within one -/
theorem relabel_free {env : Env} {x : Str} {names : List (Str × NameKind)} (h : names.lookup x = some .cell ∨ names.lookup x = some .free) :
    (names.map fun (n, k) => if (k == NameKind.free && env.scope.kind == .function && env.kindOf n == some .cell) then (n, NameKind.cell) else (n, k)).lookup x = some .cell ∨
    (names.map fun (n, k) => if (k == NameKind.free && env.scope.kind == .function && env.kindOf n == some .cell) then (n, NameKind.cell) else (n, k)).lookup x = some .free := by
  induction names with
  | nil =>
    rcases h with h | h
    · cases h
    · cases h
  | cons q r ih =>
    obtain ⟨n, k⟩ := q
    rw [List.map_cons]
    have hd : (if (k == NameKind.free && env.scope.kind == .function && env.kindOf n == some .cell) = true then (n, NameKind.cell) else (n, k)) = (n, if (k == NameKind.free && env.scope.kind == .function && env.kindOf n == some .cell) = true then NameKind.cell else k) := by
      split <;> rfl
    dsimp only
    rw [hd]
    by_cases e : (x == n) = true
    · rw [List.lookup_cons, e] at h ⊢
      dsimp only at h ⊢
      split
      · exact .inl rfl
      · exact h
    · have e := Bool.eq_false_iff.mpr e
      rw [List.lookup_cons, e] at h ⊢
      exact ih h
theorem blkRel {N : List Str} {sc scope : Scope} {env : Env} {own : List (Str × Nat)} (h : BlkOk N sc scope own) : BlkOk N (relabel sc env) scope own :=
  ⟨h.kind, h.uniq, h.ix, fun y hy e => relabel_free (h.free y hy e), h.own⟩
set_option Elab.async false
set_option linter.all false
set_option maxRecDepth 100000
set_option maxHeartbeats 4000000
/-! ## len(o) by an own __len__; max, min of three; a list taken apart -/
abbrev rLenP (C : Addr) (sp : Sp) : List V → Hp → VK → Prop := fun xs H Q => ∃ a dx fs, xs = [.ref a] ∧ H a = some (.ins C dx fs) ∧ sp [.ref a] H (fun v H' => ∃ n : Nat, v = .int n ∧ n < 1000000 ∧ Q (.int n) H') E0
section
variable {X : Cx} {C : Addr} {k : Nat}
theorem cr_lenP {sp : Sp} {st0 : Stmt} {q0 : Str} (h : Mth X.prog X.w X.K X.mg X.base C "__len__" ["self"] k sp st0 q0) (hr0 : Room (k + 1) X.A) : CallR X (.builtin "len") (rLenP C sp) := by
  intro pins s σ H xs us Q I r hq
  obtain ⟨f, fd, F, hm1, b0, cl, _⟩ := h.ex
  obtain ⟨a, dx, fs, rfl, ha, hsp⟩ := hq
  obtain ⟨u, rfl, rx⟩ := vals1 r
  cases rx
  have hr : Room k X.A.in1 := hr0.in1
  obtain ⟨mA, J, _⟩ := ins_get I.hok ha
  obtain ⟨od, J, _⟩ := J.look
  obtain ⟨m, hF⟩ := I.fr
  refine PySem.W.len_K hF I.ok.mod.kin J hm1.at_ hm1.fn (wpAny_call ?_)
  refine codeAny_mono (F.run X.A.in1 X.stack s H ⟨[.ref a], []⟩ [.ref a] [.ref a] _ E0 hr I.env0.in1 (by simpa using b0 s [.ref a] I.kIn rfl) (.cons rfl .nil) hsp) fun r s' hq => ?_
  cases r with
  | error e => exact hq.elim
  | ok fl =>
    cases fl with
    | ret w =>
      obtain ⟨z, H', I', rz, n, ez, hn, q⟩ := I.after hq
      subst ez
      obtain ⟨t, rfl⟩ := rz
      exact ⟨⟨by omega, by omega⟩, .int n, H', I'.tok _, ⟨_, rfl⟩, q⟩
    | next => exact False.elim hq
    | brk => exact False.elim hq
    | cont => exact False.elim hq
end
abbrev rMax3 : List V → Hp → VK → Prop := rNuC3 nuMax3
abbrev rMin3 : List V → Hp → VK → Prop := rNuC3 nuMin3
theorem r_max3 {H : Hp} {Q : VK} {i j k m : Int} (e : m = max (max i j) k) (q : Q (.int m) H) : rMax3 [.int i, .int j, .int k] H Q := by
  refine ⟨_, _, _, .int m, rfl, ?_, q⟩
  subst e
  have two : ∀ a b : Int, nuMax2 (.int a) (.int b) = some (.int (max a b)) := fun a b => by
    show some (if decide (a < b) = true then V.int b else V.int a) = _
    by_cases h : a < b
    · rw [if_pos (decide_eq_true h), Int.max_eq_right (Int.le_of_lt h)]
    · rw [if_neg (by simpa using h), Int.max_eq_left (by omega)]
  unfold nuMax3
  rw [two]
  exact two _ _
theorem r_min3 {H : Hp} {Q : VK} {i j k m : Int} (e : m = min (min i j) k) (q : Q (.int m) H) : rMin3 [.int i, .int j, .int k] H Q := by
  refine ⟨_, _, _, .int m, rfl, ?_, q⟩
  subst e
  have two : ∀ a b : Int, nuMin2 (.int a) (.int b) = some (.int (min a b)) := fun a b => by
    show some (if decide (b < a) = true then V.int b else V.int a) = _
    by_cases h : b < a
    · rw [if_pos (decide_eq_true h), Int.min_eq_right (Int.le_of_lt h)]
    · rw [if_neg (by simpa using h), Int.min_eq_left (by omega)]
  unfold nuMin3
  rw [two]
  exact two _ _
section
variable {K : PySem.W.Frag} {H : Hp} {Q : VK} {a : Addr} {σ : L2.St}
theorem r_sum {ns : List Int} (h : SqL K H a (ns.map V.int)) (q : Q (.int ns.sum) H) : rSum K [.ref a] H Q := ⟨a, ns, rfl, h, q⟩
theorem r_glst {k : Nat} {T : TGs} {R : L2.St → Hp → Prop} {xs : List V} (h : SqL K H a xs) (e : xs.length = k) (q : T xs σ H R) : gLst K k T (.ref a) σ H R := ⟨a, xs, rfl, h, e, q⟩
theorem r_notIn {x : V} {xs : List V} {b : Bool} (h : SqL K H a xs ∨ SqT K H a xs) (f : flatV x = true) (fs : xs.all flatV = true) (e : inV x xs = b) (q : Q (.bl (!b)) H) : rIn K true x (.ref a) H Q := by
  subst e
  exact ⟨a, xs, rfl, h, f, fs, q⟩
theorem r_in {x : V} {xs : List V} {b : Bool} (h : SqL K H a xs ∨ SqT K H a xs) (f : flatV x = true) (fs : xs.all flatV = true) (e : inV x xs = b) (q : Q (.bl b) H) : rIn K false x (.ref a) H Q := by
  subst e
  exact ⟨a, xs, rfl, h, f, fs, q⟩
theorem r_lenP {C dx : Addr} {fs : List (Str × V)} {sp : Sp} (h : H a = some (.ins C dx fs)) (q : sp [.ref a] H (fun v H' => ∃ n : Nat, v = .int n ∧ n < 1000000 ∧ Q (.int n) H') E0) : rLenP C sp [.ref a] H Q := ⟨a, dx, fs, rfl, h, q⟩
end
theorem r_par3 {σ : L2.St} {H : Hp} {D : Ends} {tas : TA} {i j l : Nat} (h : tas σ H fun vs H1 => ∃ u v w, vs = [u, v, w] ∧ D.nx (((σ.set i (some u)).set j (some v)).set l (some w)) H1) : tPar3 i j l tas D σ H := h
theorem r_expar3 {x y z : V} {R : V → V → V → Prop} (h : R x y z) : ∃ u v w, [x, y, z] = [u, v, w] ∧ R u v w := ⟨x, y, z, rfl, h⟩
set_option Elab.async false
set_option linter.all false
set_option maxRecDepth 100000
set_option maxHeartbeats 4000000
def top (i : Nat) : Stmt := PySem.Challenge.pw_evenbits_k03_plans_joined_and_parted.main.body.getD i (.Pass ⟨0, 0, 0, 0⟩)
abbrev s_is_whole : Stmt := top 3
theorem sc_is_whole : FnScope ["thing"] ["thing"] (defScope s_is_whole) := ⟨rfl, rfl, rfl, by decide +kernel, rfl, by decide +kernel, by decide +kernel⟩
abbrev s_is_between : Stmt := top 4
theorem sc_is_between : FnScope ["thing", "least", "most"] ["thing", "least", "most"] (defScope s_is_between) := ⟨rfl, rfl, rfl, by decide +kernel, rfl, by decide +kernel, by decide +kernel⟩
abbrev s_is_whole_list : Stmt := top 5
theorem sc_is_whole_list : FnScope ["thing", "entry"] ["thing"] (defScope s_is_whole_list) := ⟨rfl, rfl, rfl, by decide +kernel, rfl, by decide +kernel, by decide +kernel⟩
abbrev s_is_at_most : Stmt := top 6
theorem sc_is_at_most : FnScope ["row", "other", "one", "two"] ["row", "other"] (defScope s_is_at_most) := ⟨rfl, rfl, rfl, by decide +kernel, rfl, by decide +kernel, by decide +kernel⟩
abbrev s_Plan___init__ : Stmt := inClass (top 14) 0
theorem sc_Plan___init__ : FnScope ["self", "low", "high", "least", "most", "bounds", "numbers"] ["self", "low", "high", "least", "most"] (defScope s_Plan___init__) := ⟨rfl, rfl, rfl, by decide +kernel, rfl, by decide +kernel, by decide +kernel⟩
abbrev s_Plan_low : Stmt := inClass (top 14) 2
theorem sc_Plan_low : FnScope ["self"] ["self"] (defScope s_Plan_low) := ⟨rfl, rfl, rfl, by decide +kernel, rfl, by decide +kernel, by decide +kernel⟩
abbrev s_Plan_high : Stmt := inClass (top 14) 3
theorem sc_Plan_high : FnScope ["self"] ["self"] (defScope s_Plan_high) := ⟨rfl, rfl, rfl, by decide +kernel, rfl, by decide +kernel, by decide +kernel⟩
abbrev s_Plan_least : Stmt := inClass (top 14) 4
theorem sc_Plan_least : FnScope ["self"] ["self"] (defScope s_Plan_least) := ⟨rfl, rfl, rfl, by decide +kernel, rfl, by decide +kernel, by decide +kernel⟩
abbrev s_Plan_most : Stmt := inClass (top 14) 5
theorem sc_Plan_most : FnScope ["self"] ["self"] (defScope s_Plan_most) := ⟨rfl, rfl, rfl, by decide +kernel, rfl, by decide +kernel, by decide +kernel⟩
abbrev s_Plan_total : Stmt := inClass (top 14) 6
theorem sc_Plan_total : FnScope ["self"] ["self"] (defScope s_Plan_total) := ⟨rfl, rfl, rfl, by decide +kernel, rfl, by decide +kernel, by decide +kernel⟩
abbrev s_Plan___len__ : Stmt := inClass (top 14) 7
theorem sc_Plan___len__ : FnScope ["self"] ["self"] (defScope s_Plan___len__) := ⟨rfl, rfl, rfl, by decide +kernel, rfl, by decide +kernel, by decide +kernel⟩
abbrev s_Plan___eq__ : Stmt := inClass (top 14) 8
theorem sc_Plan___eq__ : FnScope ["self", "other"] ["self", "other"] (defScope s_Plan___eq__) := ⟨rfl, rfl, rfl, by decide +kernel, rfl, by decide +kernel, by decide +kernel⟩
abbrev s_Plan_joined : Stmt := inClass (top 14) 13
theorem sc_Plan_joined : FnScope ["self", "other", "low", "high", "bound"] ["self", "other"] (defScope s_Plan_joined) := ⟨rfl, rfl, rfl, by decide +kernel, rfl, by decide +kernel, by decide +kernel⟩
abbrev s_Plan_part : Stmt := inClass (top 14) 14
theorem sc_Plan_part : FnScope ["self", "first", "last", "begin", "end", "low", "high", "inner_low", "inner_high", "total", "bound"] ["self", "first", "last", "begin", "end"] (defScope s_Plan_part) := ⟨rfl, rfl, rfl, by decide +kernel, rfl, by decide +kernel, by decide +kernel⟩
abbrev s_check_bound : Stmt := top 15
theorem sc_check_bound : FnScope ["plan", "time", "side"] ["plan", "time", "side"] (defScope s_check_bound) := ⟨rfl, rfl, rfl, by decide +kernel, rfl, by decide +kernel, by decide +kernel⟩
abbrev s_Plan_loosened : Stmt := inClass (top 14) 15
theorem sc_Plan_loosened : FnScope ["self", "time", "side", "low", "high", "at"] ["self", "time", "side"] (defScope s_Plan_loosened) := ⟨rfl, rfl, rfl, by decide +kernel, rfl, by decide +kernel, by decide +kernel⟩
abbrev s__law_jar : Stmt := top 17
theorem sc__law_jar : FnScope ["script", "k", "cell_here"] ["script", "k"] (defScope s__law_jar) := ⟨rfl, rfl, rfl, by decide +kernel, rfl, by decide +kernel, by decide +kernel⟩
abbrev s__law_dip : Stmt := top 18
theorem sc__law_dip : FnScope ["jar", "many", "digit", "mixed"] ["jar", "many"] (defScope s__law_dip) := ⟨rfl, rfl, rfl, by decide +kernel, rfl, by decide +kernel, by decide +kernel⟩
abbrev s__law_around : Stmt := top 19
theorem sc__law_around : FnScope ["jar", "drawn", "wide", "lows", "highs", "leasts", "mosts", "here", "entry"] ["jar", "drawn", "wide"] (defScope s__law_around) := ⟨rfl, rfl, rfl, by decide +kernel, rfl, by decide +kernel, by decide +kernel⟩
abbrev s__law_small : Stmt := top 20
theorem sc__law_small : FnScope ["jar", "longest", "drawn", "lows", "highs", "leasts", "mosts", "turn", "entry"] ["jar", "longest"] (defScope s__law_small) := ⟨rfl, rfl, rfl, by decide +kernel, rfl, by decide +kernel, by decide +kernel⟩
abbrev s__law_great : Stmt := top 21
theorem sc__law_great : FnScope ["jar", "longest", "size", "drawn", "turn", "some", "lows", "highs", "leasts", "mosts", "spot", "entry"] ["jar", "longest"] (defScope s__law_great) := ⟨rfl, rfl, rfl, by decide +kernel, rfl, by decide +kernel, by decide +kernel⟩
abbrev s__law_heap : Stmt := top 22
theorem sc__law_heap : FnScope ["raw"] ["raw"] (defScope s__law_heap) := ⟨rfl, rfl, rfl, by decide +kernel, rfl, by decide +kernel, by decide +kernel⟩
abbrev s__law_joined : Stmt := top 23
theorem sc__law_joined : FnScope ["one", "two", "whole", "bound"] ["one", "two"] (defScope s__law_joined) := ⟨rfl, rfl, rfl, by decide +kernel, rfl, by decide +kernel, by decide +kernel⟩
abbrev s__law_between : Stmt := top 24
theorem sc__law_between : FnScope ["jar", "under", "over"] ["jar", "under", "over"] (defScope s__law_between) := ⟨rfl, rfl, rfl, by decide +kernel, rfl, by decide +kernel, by decide +kernel⟩
abbrev s__law_part_right : Stmt := top 25
theorem sc__law_part_right : FnScope ["jar", "raw", "lows", "highs", "leasts", "mosts", "one", "two", "here", "there", "due", "spot", "made"] ["jar", "raw"] (defScope s__law_part_right) := ⟨rfl, rfl, rfl, by decide +kernel, rfl, by decide +kernel, by decide +kernel⟩
abbrev s__law_loose_right : Stmt := top 26
theorem sc__law_loose_right : FnScope ["jar", "raw", "lows", "highs", "leasts", "mosts", "spot", "made", "ahead", "behind", "bounds"] ["jar", "raw"] (defScope s__law_loose_right) := ⟨rfl, rfl, rfl, by decide +kernel, rfl, by decide +kernel, by decide +kernel⟩
abbrev s_law : Stmt := top 27
theorem sc_law : FnScope ["script", "k", "jar", "raw", "other_raw", "made", "told"] ["script"] (defScope s_law) := ⟨rfl, rfl, rfl, by decide +kernel, rfl, by decide +kernel, by decide +kernel⟩
def fn : List Df := [
  ⟨fun K => He.ga K "is_whole", "is_whole", "is_whole", s_is_whole⟩,
  ⟨fun K => He.ga K "is_between", "is_between", "is_between", s_is_between⟩,
  ⟨fun K => He.ga K "is_whole_list", "is_whole_list", "is_whole_list", s_is_whole_list⟩,
  ⟨fun K => He.ga K "is_at_most", "is_at_most", "is_at_most", s_is_at_most⟩,
  ⟨fun K => He.ma K (He.ga K "Plan") "__init__", "__init__", "Plan.__init__", s_Plan___init__⟩,
  ⟨pgA "Plan" "low", "low", "Plan.low", s_Plan_low⟩,
  ⟨pgA "Plan" "high", "high", "Plan.high", s_Plan_high⟩,
  ⟨pgA "Plan" "least", "least", "Plan.least", s_Plan_least⟩,
  ⟨pgA "Plan" "most", "most", "Plan.most", s_Plan_most⟩,
  ⟨pgA "Plan" "total", "total", "Plan.total", s_Plan_total⟩,
  ⟨fun K => He.ma K (He.ga K "Plan") "__len__", "__len__", "Plan.__len__", s_Plan___len__⟩,
  ⟨fun K => He.ma K (He.ga K "Plan") "__eq__", "__eq__", "Plan.__eq__", s_Plan___eq__⟩,
  ⟨fun K => He.ma K (He.ga K "Plan") "joined", "joined", "Plan.joined", s_Plan_joined⟩,
  ⟨fun K => He.ma K (He.ga K "Plan") "part", "part", "Plan.part", s_Plan_part⟩,
  ⟨fun K => He.ga K "check_bound", "check_bound", "check_bound", s_check_bound⟩,
  ⟨fun K => He.ma K (He.ga K "Plan") "loosened", "loosened", "Plan.loosened", s_Plan_loosened⟩,
  ⟨fun K => He.ga K "_law_jar", "_law_jar", "_law_jar", s__law_jar⟩,
  ⟨fun K => He.ga K "_law_dip", "_law_dip", "_law_dip", s__law_dip⟩,
  ⟨fun K => He.ga K "_law_around", "_law_around", "_law_around", s__law_around⟩,
  ⟨fun K => He.ga K "_law_small", "_law_small", "_law_small", s__law_small⟩,
  ⟨fun K => He.ga K "_law_great", "_law_great", "_law_great", s__law_great⟩,
  ⟨fun K => He.ga K "_law_heap", "_law_heap", "_law_heap", s__law_heap⟩,
  ⟨fun K => He.ga K "_law_joined", "_law_joined", "_law_joined", s__law_joined⟩,
  ⟨fun K => He.ga K "_law_between", "_law_between", "_law_between", s__law_between⟩,
  ⟨fun K => He.ga K "_law_part_right", "_law_part_right", "_law_part_right", s__law_part_right⟩,
  ⟨fun K => He.ga K "_law_loose_right", "_law_loose_right", "_law_loose_right", s__law_loose_right⟩,
  ⟨fun K => He.ga K "law", "law", "law", s_law⟩]
def fa : List Fb := [.b (.free "isinstance"),
  .b (.free "bool"),
  .b (.free "int"),
  .b (.glo "is_whole"),
  .b (.glo "is_between"),
  .b (.free "all"),
  .b (.free "len"),
  .b (.int "MOST_TIMES" 200),
  .b (.free "list"),
  .b (.glo "is_whole_list"),
  .b (.free "zip"),
  .b (.glo "is_at_most"),
  .b (.free "any"),
  .b (.cls "Plan"),
  .b (.mkr "Plan"),
  .prop "Plan" "low",
  .prop "Plan" "high",
  .prop "Plan" "least",
  .prop "Plan" "most",
  .prop "Plan" "total",
  .b (.meth "Plan" "__len__"),
  .b (.glo "Plan"),
  .b (.meth "Plan" "__eq__"),
  .b (.meth "Plan" "joined"),
  .b (.meth "Plan" "part"),
  .b (.glo "check_bound"),
  .b (.free "max"),
  .b (.free "sum"),
  .b (.free "min"),
  .b (.meth "Plan" "loosened"),
  .b (.free "abs"),
  .b (.glo "_law_jar"),
  .b (.glo "_law_dip"),
  .b (.glo "_law_around"),
  .b (.free "range"),
  .b (.glo "_law_small"),
  .b (.glo "_law_great"),
  .b (.glo "_law_heap"),
  .b (.glo "_law_joined"),
  .b (.glo "_law_between"),
  .b (.glo "_law_part_right"),
  .findB "Plan" "__ne__" "object.__ne__",
  .isi "Plan",
  .b (.glo "_law_loose_right"),
  .b (.glo "law"),
  .kit "Plan" "Plan" true,
  .b (.noat "Plan" "_low"),
  .b (.noat "Plan" "_high"),
  .b (.noat "Plan" "_least"),
  .b (.noat "Plan" "_most")]

set_option Elab.async false
set_option linter.all false
set_option maxRecDepth 100000
set_option maxHeartbeats 4000000
local macro_rules | `(tactic| walk_at "ev.mem") => `(tactic| focus (repeat (first | exact List.Mem.head _ | refine' List.Mem.tail _ ?_)))
local macro_rules | `(tactic| walk_at "ev.hg") => `(tactic| first | assumption | exact upd_same | (refine' Z.get ?z ?m; (case z => assumption); (case m => walk_at "ev.mem")) | (refine' ZJ.get ?z ?m; (case z => assumption); (case m => walk_at "ev.mem")) | (refine' Z.keep ?z ?h ?n; (case z => assumption); (case h => assumption); (case n => first | (simp; done) | (simp; first | assumption | (apply Ne.symm; assumption)))) | (refine' ZJ.keep ?z ?h ?n; (case z => assumption); (case h => assumption); (case n => first | assumption | (apply Ne.symm; assumption))))
local macro_rules | `(tactic| walk_at "ev.sq") => `(tactic| first | assumption | (apply SqL.of; walk_at "ev.hg"))
local macro_rules | `(tactic| walk_at "ev.st") => `(tactic| first | assumption | (apply SqT.of; walk_at "ev.hg"))
local macro_rules | `(tactic| walk_at "ev.sz") => `(tactic| first | exact Nat.le_of_ble_eq_true rfl | (apply small1000'; simp; done) | (apply small1000'; simp; omega) | (apply small1000'; simp only [List.length_map, List.length_append, List.length_range, List.length_reverse, List.length_cons, List.length_nil, List.length_set]; omega))
local macro_rules | `(tactic| walk_at "ev.szl") => `(tactic| first | exact Nat.le_of_ble_eq_true rfl | (apply smalllt'; simp; done) | (apply smalllt'; simp; omega) | (apply smalllt'; simp only [List.length_map, List.length_append, List.length_range, List.length_reverse, List.length_cons, List.length_nil, List.length_set]; omega))
local macro_rules | `(tactic| walk_at "ev.1") => `(tactic| with_reducible first
  | refine' r_seq ?_ | refine' r_asg ?_ | refine' r_op ?_ | (refine' r_var ?v ?_; (case v => k_dflt exact rfl)) | refine' r_c ?_ | refine' r_name ?_ | refine' r_I0 ?_
  | (refine' r_I ?c ?_; (case c => k_dflt exact pow10 (by decide)))
  | refine' r_cons ?_ | refine' r_nil ?_ | refine' r_call ?_ | refine' r_drop ?_ | refine' r_ret ?_ | refine' r_ifs ?_ | refine' r_test ?_ | refine' r_exif ?_ | refine' r_un ?_ | refine' r_U ?_
  | (refine' r_ixL ?s ?_; (case s => k_dflt walk_at "ev.sq")) | (refine' r_ixT ?s ?_; (case s => k_dflt walk_at "ev.st")) | (refine' r_at ?e ?_; (case e => k_dflt exact rfl)) | (refine' r_ixn ?e ?_; (case e => k_dflt exact rfl)) | (refine' r_ixST (r_ixT ?s ?_); (case s => k_dflt walk_at "ev.st")) | (refine' r_ixSL (r_ixL ?s ?_); (case s => k_dflt walk_at "ev.sq"))
  | refine' r_cb ?_ | refine' r_B ?_ | refine' r_and ?_ | refine' r_or ?_ | refine' r_not ?_ | refine' r_andV ?_ | refine' r_orV ?_ | refine' r_notV ?_ | refine' r_if ?_
  | refine' iteT ?_ | refine' iteF ?_ | refine' iteNT ?_ | refine' iteNF ?_ | refine' r_chain ?_
  | (refine' r_gtup ?s ?e ?_; (case s => k_dflt walk_at "ev.st"); (case e => k_dflt exact rfl)) | refine' r_gcons ?_ | refine' r_gnil ?_ | refine' r_gsub ?_
  | (refine' r_setL ?s ?_; (case s => k_dflt walk_at "ev.hg")) | refine' r_tup ?_ | refine' r_lst ?_
  | refine' r_bm ?_ | (refine' r_tyL ?s ?_; (case s => k_dflt walk_at "ev.hg")) | (refine' r_app ?s ?e ?_; (case s => k_dflt walk_at "ev.hg"); (case e => k_dflt walk_at "ev.szl"))
  | refine' r_sl ?_ | refine' r_part ?_ | refine' r_exint ?_ | refine' r_nopart ?_ | (refine' r_slL ?s ?_; (case s => k_dflt walk_at "ev.sq")) | refine' r_revL ?_ | (refine' r_exrev ?s ?_; (case s => k_dflt walk_at "ev.sq"))
  | (refine' r_eq ?e ?_; (case e => k_dflt exact rfl)) | (refine' r_ne ?e ?_; (case e => k_dflt exact rfl)) | refine' r_par ?_ | refine' r_expar ?_ | refine' r_par3 ?_ | refine' r_expar3 ?_ | refine' r_methK ?_ | refine' r_ienumS ?_ | (refine' r_sum ?s ?_; (case s => k_dflt walk_at "ev.sq")) | (refine' r_glst ?s ?e ?_; (case s => k_dflt walk_at "ev.sq"); (case e => k_dflt exact rfl))
  | (refine' r_cat ?a ?b ?e ?_; (case a => k_dflt walk_at "ev.hg"); (case b => k_dflt walk_at "ev.hg"); (case e => k_dflt walk_at "ev.sz"))
  | refine' r_for ?_ | refine' r_lc ?_ | refine' r_ilist ?_ | (refine' r_exil ?s ?_; (case s => k_dflt walk_at "ev.sq")) | refine' r_itup ?_ | (refine' r_exit ?s ?_; (case s => k_dflt walk_at "ev.st"))
  | refine' r_irng1 ?_ | refine' r_irng2 ?_ | refine' r_irng3 ?_ | refine' r_izip ?_ | refine' r_ienum ?_
  | (refine' r_exz ?a ?b ?_; (case a => k_dflt walk_at "ev.sq"); (case b => k_dflt walk_at "ev.sq")) | (refine' r_exen ?a ?_; (case a => k_dflt walk_at "ev.sq"))
  | refine' r_yes ?_ | (refine' r_len ?s ?_; (case s => k_dflt walk_at "ev.sq")) | (refine' r_lenT ?s ?_; (case s => k_dflt walk_at "ev.st")) | refine' r_int1 ?_ | refine' r_int2 ?_ | refine' r_int3 ?_
  | (refine' r_mk ?e ?_; (case e => k_dflt exact Nat.le_of_ble_eq_true rfl))
  | refine' r_make ?_ | refine' r_meth ?_ | refine' r_prop ?_ | refine' r_fld ?_ | refine' r_sfld ?_ | refine' r_next ?_)
local macro_rules | `(tactic| walk_at "ev") => `(tactic| repeat walk_at "ev.1")
local macro_rules | `(tactic| walk_at "ev0") => `(tactic| (dsimp only [cxOf, Cx.nox]; walk_at "ev"))

section
variable {P : Program} {w : World} {K : PySem.W.Frag} {mg : Str → Option Value} {base : Heap}
/-! ## is_whole -/
def sp_is_whole (K : PySem.W.Frag) : Sp := fun vs H Q _ => ∃ v t b1 b2, vs = [v] ∧ TyX K H v t ∧ PySem.W.kitOne K t (.type "int") = some b1 ∧ PySem.W.kitOne K t (.type "bool") = some b2 ∧ Q (.bl (b1 && !b2)) H
theorem k_is_whole (T : Tx fa fn K mg base) : Fk P w K mg base "is_whole" ["thing"] 1 (sp_is_whole K) s_is_whole "is_whole" := by
  refine T.fk 0 3 (q := "is_whole") (st := s_is_whole) sc_is_whole (fun _ _ _ _ _ _ us hl => match us, hl with | [_], _ => rfl) (fun vs H Q E h => ?_) (fun cdv A outer s H vs Q E hr h => ?_)
  · obtain ⟨v, t, b1, b2, rfl, _⟩ := h
    rfl
  · obtain ⟨v, t, b1, b2, rfl, ty, h1, h2, k⟩ := h
    refine ⟨_, (pss_one (ps_ret (pe_and (pe_callB call_isi (by rfl) (T.fr 0) (by decide +kernel) (pa_cons (pv 0) (pa_cons (pe_bltn (v := .ty "int") (u := .type "int") (by rfl) (T.fr 2) (by decide +kernel) rfl) pa_nil))) (pe_one (pe_not (pe_callB call_isi (by rfl) (T.fr 0) (by decide +kernel) (pa_cons (pv 0) (pa_cons (pe_bltn (v := .ty "bool") (u := .type "bool") (by rfl) (T.fr 1) (by decide +kernel) rfl) pa_nil)))))))), ?_⟩
    walk_at "ev0"
    refine r_isi (.ty _) ty h1 ?_
    walk_at "ev"
    cases b1 with
    | false => exact iteF k
    | true =>
      refine iteT ?_
      walk_at "ev"
      refine r_isi (.ty _) ty h2 ?_
      walk_at "ev"
      exact k
theorem whole_int {K : PySem.W.Frag} {H : Hp} {Q : VK} {i : Int} (k : Q (.bl true) H) : sp_is_whole K ([V.int i] ++ []) H Q E0 :=
  ⟨_, _, true, false, rfl, .base (.int i), kit_ty (by decide +kernel), kit_ty (by decide +kernel), k⟩
/-! ## is_whole_list, of a list of integers -/
def sp_is_whole_list (K : PySem.W.Frag) : Sp := fun vs H Q _ => ∃ (a : Addr) (ns : List Int), vs = [.ref a] ∧ H a = some (.lst (ns.map V.int)) ∧ (1 ≤ ns.length ∧ ns.length ≤ 200) ∧ ∀ H', Fr [] H H' → Q (.bl true) H'
theorem k_is_whole_list (T : Tx fa fn K mg base) : Fk P w K mg base "is_whole_list" ["thing"] 2 (sp_is_whole_list K) s_is_whole_list "is_whole_list" := by
  refine T.fk 2 9 (q := "is_whole_list") (st := s_is_whole_list) sc_is_whole_list (fun _ _ _ _ _ _ us hl => match us, hl with | [_], _ => rfl) (fun vs H Q E h => ?_) (fun cdv A outer s H vs Q E hr h => ?_)
  · obtain ⟨a, ns, rfl, _⟩ := h
    rfl
  · obtain ⟨a, ns, rfl, ha, hn, k⟩ := h
    have hl : (ns.map V.int).length = ns.length := List.length_map _
    refine ⟨_, (pss_cons (ps_if (PW.pt (pw_or (pt_not (pt_val (pe_callB call_isi (by rfl) (T.fr 0) (by decide +kernel) (pa_cons (pv 0) (pa_cons (pe_bltn (v := .ty "list") (u := .type "list") (by rfl) (T.fr 8) (by decide +kernel) rfl) pa_nil))))) (pw_or1 (pt_not (pt_chain op_le op_le pe_int (pe_callB call_len_seq (by rfl) (T.fr 6) (by decide +kernel) (pa_cons (pv 0) pa_nil)) (pe_globI (T.int 7))))))) (pss_one (ps_ret pe_bl)) pss_nil)
      (pss_one (ps_ret (pe_callB (cr_all rfl) (by rfl) (T.fr 5) (by decide +kernel) (pa_cons (pe_lc (own := [("entry", 1)]) (tt := tYes) (te := (tCall (sp_is_whole K) [] E0 (tCons (tVar 1) tNil))) rfl sc_is_whole_list.nd (pi_list (pv 0)) (blkOk_by (N := ["thing", "entry"]) (sc := defScope s_is_whole_list) (by decide +kernel)) (fun _ _ _ _ _ => (pg_name (i := 1) sc_is_whole_list.nd rfl (by first | exact Or.inl rfl | exact Or.inr rfl))) (fun _ _ _ _ _ => pts_nil) (fun _ _ _ _ _ => (pe_f (k_is_whole T) hr (pa_cons (pv 1) pa_nil)))) pa_nil))))), ?_⟩
    walk_at "ev0"
    refine r_isi (.ty _) (.base (.lst ha)) (kit_ty (b := "list") (r := true) (by decide +kernel)) ?_
    walk_at "ev"
    refine r_iteY (by omega) ?_
    walk_at "ev"
    refine r_iteNY (by omega) ?_
    walk_at "ev"
    refine lc_pure (walk_list (xs := ns.map V.int)) (fun _ => .bl true) (by omega) (fun H' e => e.sql (SqL.of ha) (fun z => nomatch z)) (fun i H' x H'' y => by rw [y.1]; exact Fr.refl _) (fun i x H' H'' R hi e y kR => ?_) (fun D H' hD e hD' => ?_)
    · obtain ⟨rfl, hx⟩ := y
      rw [nth_at hx]
      walk_at "ev"
      refine ⟨rfl, ?_⟩
      walk_at "ev"
      exact whole_int (kR _ (Fr.refl _))
    · walk_at "ev"
      refine r_all (bs := (List.range (ns.map V.int).length).map fun _ => true) (SqL.of (by rw [List.map_map]; exact hD')) ?_
      have e2 : ((List.range (ns.map V.int).length).map fun _ => true).all id = true := by simp
      rw [e2]
      exact k H' e
/-! ## is_at_most -/
def sp_is_at_most (K : PySem.W.Frag) : Sp := fun vs H Q _ => ∃ (a b : Addr) (ns ms : List Int), vs = [.ref a, .ref b] ∧ H a = some (.lst (ns.map V.int)) ∧ H b = some (.lst (ms.map V.int)) ∧ ns.length ≤ 10000 ∧ ∀ H', Fr [] H H' → Q (.bl (leAll ns ms)) H'
theorem k_is_at_most (T : Tx fa fn K mg base) : Fk P w K mg base "is_at_most" ["row", "other"] 1 (sp_is_at_most K) s_is_at_most "is_at_most" := by
  refine T.fk 3 11 (q := "is_at_most") (st := s_is_at_most) sc_is_at_most (fun _ _ _ _ _ _ us hl => match us, hl with | [_, _], _ => rfl) (fun vs H Q E h => ?_) (fun cdv A outer s H vs Q E hr h => ?_)
  · obtain ⟨a, b, ns, ms, rfl, _⟩ := h
    rfl
  · obtain ⟨a, b, ns, ms, rfl, ha, hb, hn, k⟩ := h
    refine ⟨_, (pss_one (ps_ret (pe_callB (cr_all rfl) (by rfl) (T.fr 5) (by decide +kernel) (pa_cons (pe_lc (own := [("one", 2), ("two", 3)]) (tt := tYes) (g := (gTup K 2 (gCons (gName 2) (gCons (gName 3) gNil)))) (te := (tOp (rI0 fun i j => .bl (decide (i ≤ j))) (tVar 2) (tVar 3))) rfl sc_is_at_most.nd (pi_zip (by rfl) (T.fr 10) (pa_cons (pv 0) (pa_cons (pv 1) pa_nil))) (blkOk_by (N := ["row", "other", "one", "two"]) (sc := defScope s_is_at_most) (by decide +kernel)) (fun _ _ _ _ _ => (pg_tup rfl (pgs_cons (pg_name (i := 2) sc_is_at_most.nd rfl (by first | exact Or.inl rfl | exact Or.inr rfl)) (pgs_cons (pg_name (i := 3) sc_is_at_most.nd rfl (by first | exact Or.inl rfl | exact Or.inr rfl)) pgs_nil)))) (fun _ _ _ _ _ => pts_nil) (fun _ _ _ _ _ => (pe_cmpR op_le (pv 2) (pv 3) (nomark _)))) pa_nil)))), ?_⟩
    walk_at "ev0"
    refine lc_pure (walk_zip (xs := ns.map V.int) (ys := ms.map V.int) (n := min ns.length ms.length) (by simp)) (fun i => .bl (decide (nth ns i ≤ nth ms i))) (by omega) (fun H' e => ⟨e.sql (SqL.of ha) (fun z => nomatch z), e.sql (SqL.of hb) (fun z => nomatch z)⟩)
      (fun i H' x H'' y => by obtain ⟨T, x1, x2, _, h0, rfl, _⟩ := y; exact (Fr.refl _).new h0) (fun i x H' H'' R hi e y kR => ?_) (fun D H' hD e hD' => ?_)
    · obtain ⟨T, x1, x2, rfl, h0, rfl, g1, g2⟩ := y
      obtain rfl := nth_at g1
      obtain rfl := nth_at g2
      have hT : SqT K (upd H' T (.tup [V.int (nth ns i), V.int (nth ms i)])) T [V.int (nth ns i), V.int (nth ms i)] := SqT.of upd_same
      walk_at "ev"
      refine ⟨rfl, ?_⟩
      walk_at "ev"
      exact kR _ (Fr.refl _)
    · walk_at "ev"
      refine r_all (bs := (List.range (min ns.length ms.length)).map fun i => decide (nth ns i ≤ nth ms i)) (SqL.of (by rw [List.map_map]; exact hD')) ?_
      have e2 : ((List.range (min ns.length ms.length)).map fun i => decide (nth ns i ≤ nth ms i)).all id = leAll ns ms := by
        rw [List.all_map]
        rfl
      rw [e2]
      exact k H' e
end
/-! ## plans: what stands where -/
structure PD where
  L : List Int
  U : List Int
  A : List Int
  B : List Int
deriving DecidableEq
structure PD.Ok (d : PD) : Prop where
  one : 1 ≤ d.L.length
  most : d.L.length ≤ 200
  lU : d.U.length = d.L.length
  lA : d.A.length = d.L.length
  lB : d.B.length = d.L.length
  lu : ∀ i, i < d.L.length → nth d.L i ≤ nth d.U i
  ab : ∀ i, i < d.L.length → nth d.A i ≤ nth d.B i
  tot : nth d.L (d.L.length - 1) = nth d.U (d.L.length - 1)
def flds (l1 l2 l3 l4 : Addr) : List (Str × V) := putF "_most" (.ref l4) (putF "_least" (.ref l3) (putF "_high" (.ref l2) (putF "_low" (.ref l1) [])))
theorem flds_low (l1 l2 l3 l4 : Addr) : (flds l1 l2 l3 l4).lookup ("_low" : Str) = some (.ref l1) := by
  unfold flds
  rw [lookup_putF, if_neg (by decide +kernel), lookup_putF, if_neg (by decide +kernel), lookup_putF, if_neg (by decide +kernel), lookup_putF, if_pos rfl]
theorem flds_high (l1 l2 l3 l4 : Addr) : (flds l1 l2 l3 l4).lookup ("_high" : Str) = some (.ref l2) := by
  unfold flds
  rw [lookup_putF, if_neg (by decide +kernel), lookup_putF, if_neg (by decide +kernel), lookup_putF, if_pos rfl]
theorem flds_least (l1 l2 l3 l4 : Addr) : (flds l1 l2 l3 l4).lookup ("_least" : Str) = some (.ref l3) := by
  unfold flds
  rw [lookup_putF, if_neg (by decide +kernel), lookup_putF, if_pos rfl]
theorem flds_most (l1 l2 l3 l4 : Addr) : (flds l1 l2 l3 l4).lookup ("_most" : Str) = some (.ref l4) := by
  unfold flds
  rw [lookup_putF, if_pos rfl]
theorem flds_no (l1 l2 l3 l4 : Addr) {m : Str} (h1 : ¬ m = "_low") (h2 : ¬ m = "_high") (h3 : ¬ m = "_least") (h4 : ¬ m = "_most") : (flds l1 l2 l3 l4).lookup m = none := by
  unfold flds
  rw [lookup_putF, if_neg h4, lookup_putF, if_neg h3, lookup_putF, if_neg h2, lookup_putF, if_neg h1]
  rfl
/-- a plan with these lists stands at p, apart from what J names -/
structure PlanAt (K : PySem.W.Frag) (J : List Addr) (H : Hp) (p : Addr) (d : PD) : Prop where
  ex : ∃ dx l1 l2 l3 l4, H p = some (.ins (He.ga K "Plan") dx (flds l1 l2 l3 l4)) ∧ (H l1 = some (.lst (d.L.map V.int)) ∧ H l2 = some (.lst (d.U.map V.int)) ∧ H l3 = some (.lst (d.A.map V.int)) ∧ H l4 = some (.lst (d.B.map V.int))) ∧
    (p ∉ J ∧ l1 ∉ J ∧ l2 ∉ J ∧ l3 ∉ J ∧ l4 ∉ J)
theorem PlanAt.mono {K : PySem.W.Frag} {J : List Addr} {H H' : Hp} {p : Addr} {d : PD} (h : PlanAt K J H p d) (f : Fr J H H') : PlanAt K J H' p d := by
  obtain ⟨dx, l1, l2, l3, l4, h0, ⟨h1, h2, h3, h4⟩, n0, n1, n2, n3, n4⟩ := h.ex
  exact ⟨dx, l1, l2, l3, l4, f _ _ n0 h0, ⟨f _ _ n1 h1, f _ _ n2 h2, f _ _ n3 h3, f _ _ n4 h4⟩, n0, n1, n2, n3, n4⟩
theorem PlanAt.nil {K : PySem.W.Frag} {J : List Addr} {H : Hp} {p : Addr} {d : PD} (h : PlanAt K J H p d) : PlanAt K [] H p d := by
  obtain ⟨dx, l1, l2, l3, l4, h0, h1, _⟩ := h.ex
  exact ⟨dx, l1, l2, l3, l4, h0, h1, (fun z => nomatch z), (fun z => nomatch z), (fun z => nomatch z), (fun z => nomatch z), fun z => nomatch z⟩
/-- a new plan -/
def NewP (K : PySem.W.Frag) (H H' : Hp) (p : Addr) (d : PD) : Prop := H p = none ∧ ∀ J, (∀ j ∈ J, ∃ o, H j = some o) → PlanAt K J H' p d
theorem NewP.at {K : PySem.W.Frag} {H H' : Hp} {p : Addr} {d : PD} (h : NewP K H H' p d) : PlanAt K [] H' p d := h.2 [] fun _ z => nomatch z
theorem NewP.at1 {K : PySem.W.Frag} {H H' : Hp} {p j : Addr} {o : HO} {d : PD} (h : NewP K H H' p d) (hj : H j = some o) : PlanAt K [j] H' p d := h.2 [j] fun x m => by
  rcases List.mem_cons.mp m with e | m
  · rw [e]
    exact ⟨o, hj⟩
  · cases m
theorem NewP.fwd {K : PySem.W.Frag} {H H1 H2 : Hp} {p : Addr} {d : PD} (h : NewP K H1 H2 p d) (f : Fr [] H H1) : NewP K H H2 p d := by
  refine ⟨?_, fun J hJ => h.2 J fun j hj => ?_⟩
  · cases e : H p with
    | none => rfl
    | some o =>
      have := f p o (fun z => nomatch z) e
      rw [h.1] at this
      cases this
  · obtain ⟨o, e⟩ := hJ j hj
    exact ⟨o, f j o (fun z => nomatch z) e⟩
section
variable {P : Program} {w : World} {K : PySem.W.Frag} {mg : Str → Option Value} {base : Heap}
def sp_Plan___init__ (K : PySem.W.Frag) : Sp := fun vs H Q _ => ∃ (x dx a1 a2 a3 a4 : Addr) (d : PD), vs = [.ref x, .ref a1, .ref a2, .ref a3, .ref a4] ∧ H x = some (.ins (He.ga K "Plan") dx []) ∧
  (H a1 = some (.lst (d.L.map V.int)) ∧ H a2 = some (.lst (d.U.map V.int)) ∧ H a3 = some (.lst (d.A.map V.int)) ∧ H a4 = some (.lst (d.B.map V.int))) ∧ d.Ok ∧
  ∀ H' l1 l2 l3 l4, Fr [x] H H' → (H' x = some (.ins (He.ga K "Plan") dx (flds l1 l2 l3 l4))) → (H' l1 = some (.lst (d.L.map V.int)) ∧ H' l2 = some (.lst (d.U.map V.int)) ∧ H' l3 = some (.lst (d.A.map V.int)) ∧ H' l4 = some (.lst (d.B.map V.int))) →
    (H l1 = none ∧ H l2 = none ∧ H l3 = none ∧ H l4 = none) → Q .non H'
theorem k_Plan___init__ (T : Tx fa fn K mg base) : Ini P w K mg base (He.ga K "Plan") ["self", "low", "high", "least", "most"] 3 (sp_Plan___init__ K) s_Plan___init__ "Plan.__init__" := by
  refine T.ini 4 14 (q := "Plan.__init__") (st := s_Plan___init__) sc_Plan___init__ (fun _ _ _ _ _ _ us hl => match us, hl with | [_, _, _, _, _], _ => rfl) (fun vs H Q E h => ?_) (fun cdv A outer s H vs Q E hr h => ?_)
  · obtain ⟨x, dx, a1, a2, a3, a4, d, rfl, _⟩ := h
    rfl
  · obtain ⟨x, dx, a1, a2, a3, a4, d, rfl, hx, ⟨h1, h2, h3, h4⟩, ok, k⟩ := h
    have m1 : (d.L.map V.int).length = d.L.length := List.length_map _
    have m2 : (d.U.map V.int).length = d.L.length := (List.length_map _).trans ok.lU
    have m3 : (d.A.map V.int).length = d.L.length := (List.length_map _).trans ok.lA
    have m4 : (d.B.map V.int).length = d.L.length := (List.length_map _).trans ok.lB
    refine ⟨_, (pss_cons (ps_set (i := 5) sc_Plan___init__.nd rfl (by first | exact Or.inl rfl | exact Or.inr rfl) (pe_tup (pa_cons (pv 1) (pa_cons (pv 2) (pa_cons (pv 3) (pa_cons (pv 4) pa_nil))))))
      (pss_cons (ps_if (pt_not (pt_val (pe_callB (cr_all rfl) (by rfl) (T.fr 5) (by decide +kernel) (pa_cons (pe_lc (own := [("numbers", 6)]) (tt := tYes) (te := (tCall (sp_is_whole_list K) [] E0 (tCons (tVar 6) tNil))) rfl sc_Plan___init__.nd (pi_tup (pv 5)) (blkOk_by (N := ["self", "low", "high", "least", "most", "bounds", "numbers"]) (sc := defScope s_Plan___init__) (by decide +kernel)) (fun _ _ _ _ _ => (pg_name (i := 6) sc_Plan___init__.nd rfl (by first | exact Or.inl rfl | exact Or.inr rfl))) (fun _ _ _ _ _ => pts_nil) (fun _ _ _ _ _ => (pe_f (k_is_whole_list T) hr (pa_cons (pv 6) pa_nil)))) pa_nil)))) (pss_one ps_never) pss_nil)
      (pss_cons (ps_if (pt_val (pe_callB (cr_any rfl) (by rfl) (T.fr 12) (by decide +kernel) (pa_cons (pe_lc (own := [("numbers", 6)]) (tt := tYes) (te := (tOp rNe (tCB (rLenX K) (tCons (tVar 6) tNil)) (tCB (rLenX K) (tCons (tVar 1) tNil)))) rfl sc_Plan___init__.nd (pi_tup (pv 5)) (blkOk_by (N := ["self", "low", "high", "least", "most", "bounds", "numbers"]) (sc := defScope s_Plan___init__) (by decide +kernel)) (fun _ _ _ _ _ => (pg_name (i := 6) sc_Plan___init__.nd rfl (by first | exact Or.inl rfl | exact Or.inr rfl))) (fun _ _ _ _ _ => pts_nil) (fun _ _ _ _ _ => (pe_cmpR op_ne (pe_callB call_len_seq (by rfl) (T.fr 6) (by decide +kernel) (pa_cons (pv 6) pa_nil)) (pe_callB call_len_seq (by rfl) (T.fr 6) (by decide +kernel) (pa_cons (pv 1) pa_nil)) (nomark _)))) pa_nil))) (pss_one ps_never) pss_nil)
      (pss_cons (ps_if (PW.pt (pw_or (pt_not (pt_val (pe_f (k_is_at_most T) hr (pa_cons (pv 1) (pa_cons (pv 2) pa_nil))))) (pw_or1 (pt_not (pt_val (pe_f (k_is_at_most T) hr (pa_cons (pv 3) (pa_cons (pv 4) pa_nil)))))))) (pss_one ps_never) pss_nil)
      (pss_cons (ps_if (pt_cmpR op_ne (pe_ix ix_list (pv 1) (pe_un un_neg pe_int) (fun _ _ => rfl)) (pe_ix ix_list (pv 2) (pe_un un_neg pe_int) (fun _ _ => rfl)) (nomark _)) (pss_one ps_never) pss_nil)
      (pss_cons (ps_fld (pv 0) (pe_callTy call_list_of (by rfl) (T.fr 8) (by decide +kernel) (pa_cons (pv 1) pa_nil)) rfl)
      (pss_cons (ps_fld (pv 0) (pe_callTy call_list_of (by rfl) (T.fr 8) (by decide +kernel) (pa_cons (pv 2) pa_nil)) rfl)
      (pss_cons (ps_fld (pv 0) (pe_callTy call_list_of (by rfl) (T.fr 8) (by decide +kernel) (pa_cons (pv 3) pa_nil)) rfl)
      (pss_one (ps_fld (pv 0) (pe_callTy call_list_of (by rfl) (T.fr 8) (by decide +kernel) (pa_cons (pv 4) pa_nil)) rfl)))))))))), ?_⟩
    have n1 := ne_of h1 hx (by intro z; cases z)
    have n2 := ne_of h2 hx (by intro z; cases z)
    have n3 := ne_of h3 hx (by intro z; cases z)
    have n4 := ne_of h4 hx (by intro z; cases z)
    have four : ∀ (i : Nat) (x : V), [V.ref a1, V.ref a2, V.ref a3, V.ref a4][i]? = some x → ∃ (a : Addr) (ns : List Int), x = .ref a ∧ H a = some (.lst (ns.map V.int)) ∧ ns.length = d.L.length := by
      intro i x h
      match i, h with
      | 0, h => exact ⟨a1, d.L, (Option.some.inj h).symm, h1, rfl⟩
      | 1, h => exact ⟨a2, d.U, (Option.some.inj h).symm, h2, ok.lU⟩
      | 2, h => exact ⟨a3, d.A, (Option.some.inj h).symm, h3, ok.lA⟩
      | 3, h => exact ⟨a4, d.B, (Option.some.inj h).symm, h4, ok.lB⟩
    have one := ok.one
    have most := ok.most
    have lU := ok.lU
    have lA := ok.lA
    have lB := ok.lB
    walk_at "ev0"
    intro b hb
    have f1 : Fr [] H (upd H b (.tup [.ref a1, .ref a2, .ref a3, .ref a4])) := (Fr.refl H).new hb
    have t1 : (upd H b (.tup [.ref a1, .ref a2, .ref a3, .ref a4])) b = some (.tup [.ref a1, .ref a2, .ref a3, .ref a4]) := upd_same
    generalize upd H b (.tup [.ref a1, .ref a2, .ref a3, .ref a4]) = Ha at f1 t1 ⊢
    walk_at "ev"
    -- all four are lists of integers
    refine lc_pure (walk_tup (xs := [.ref a1, .ref a2, .ref a3, .ref a4])) (fun _ => .bl true) (by simp) (fun H' e => SqT.of (e _ _ (fun z => nomatch z) t1)) (fun i H' x H'' y => by rw [y.1]; exact Fr.refl _) (fun i x H' H'' R hi e y kR => ?_) (fun D H' hD e hD' => ?_)
    · obtain ⟨rfl, hx⟩ := y
      obtain ⟨a, ns, rfl, ha, hn⟩ := four i x hx
      walk_at "ev"
      refine ⟨rfl, ?_⟩
      walk_at "ev"
      exact ⟨a, ns, rfl, (f1.trans e) _ _ (fun z => nomatch z) ha, by omega, fun H4 e4 => kR H4 e4⟩
    walk_at "ev"
    refine r_allB (bs := [true, true, true, true]) (b := true) (SqL.of hD') rfl ?_
    walk_at "ev"
    have f2 : Fr [] H H' := f1.trans e
    have t2 := e _ _ (fun z => nomatch z) t1
    clear e hD' hD D f1 t1
    clear hb
    walk_at "ev"
    -- all are equally long
    refine lc_pure (walk_tup (xs := [.ref a1, .ref a2, .ref a3, .ref a4])) (fun _ => .bl false) (by simp) (fun H' e => SqT.of (e _ _ (fun z => nomatch z) t2)) (fun i H' x H'' y => by rw [y.1]; exact Fr.refl _) (fun i x H' H'' R hi e y kR => ?_) (fun D H2 hD e hD' => ?_)
    · obtain ⟨rfl, hx⟩ := y
      obtain ⟨a, ns, rfl, ha, hn⟩ := four i x hx
      walk_at "ev"
      refine ⟨rfl, ?_⟩
      have g1 := (f2.trans e) _ _ (fun z => nomatch z) h1
      have g2 := (f2.trans e) _ _ (fun z => nomatch z) ha
      walk_at "ev"
      have q : (!decide (V.int ((ns.map V.int).length : Int) = V.int ((d.L.map V.int).length : Int))) = false := by
        rw [List.length_map, List.length_map, hn, decide_eq_true rfl]
        rfl
      rw [q]
      exact kR _ (Fr.refl _)
    walk_at "ev"
    refine r_anyB (bs := [false, false, false, false]) (b := false) (SqL.of hD') rfl ?_
    walk_at "ev"
    have f3 : Fr [] H H2 := f2.trans e
    clear e hD' hD D f2 t2
    walk_at "ev"
    -- no bound is above
    refine ⟨a1, a2, d.L, d.U, rfl, f3 _ _ (fun z => nomatch z) h1, f3 _ _ (fun z => nomatch z) h2, by omega, fun H3 e3 => ?_⟩
    rw [leAll_of ok.lu]
    have f4 : Fr [] H H3 := f3.trans e3
    walk_at "ev"
    refine ⟨a3, a4, d.A, d.B, rfl, f4 _ _ (fun z => nomatch z) h3, f4 _ _ (fun z => nomatch z) h4, by omega, fun H4 e4 => ?_⟩
    rw [leAll_of (fun i hi => ok.ab i (by have := ok.lA; omega))]
    have f5 : Fr [] H H4 := f4.trans e4
    have g1 := f5 _ _ (fun z => nomatch z) h1
    have g2 := f5 _ _ (fun z => nomatch z) h2
    walk_at "ev"
    refine r_at (atI_end (ns := d.L) (by omega)) ?_
    walk_at "ev"
    refine r_at (atI_end (ns := d.U) (by omega)) ?_
    walk_at "ev"
    have q : V.int (nth d.L (d.L.length - 1)) = V.int (nth d.U (d.U.length - 1)) := by rw [ok.lU, ok.tot]
    refine r_iteNY q ?_
    walk_at "ev"
    have z0 : Z H H4 [(1, x, .ins (He.ga K "Plan") dx [])] := ((Z.start0 H).old 1 (by decide) hx fun _ z => nomatch z).same f5
    have on1 : ∀ {Hc : Hp} {E : List En}, Z H Hc E → (∀ q ∈ E, q.1 = 1 → q.2.1 = x) → Fr [x] H Hc := fun z h => z.fr1 h
    have away : ∀ {a : Addr}, a ≠ x → a ∉ [x] := fun h m => by
      rcases List.mem_cons.mp m with e | m
      · exact h e
      · cases m
    -- self._low = list(low)
    intro l1 k1
    have z1 := z0.alloc (.lst (d.L.map V.int)) k1
    walk_at "ev"
    refine r_exsfld (z1.get (.tail _ (.head _))) (T.cls 13) (T.noat 46) (by show 0 < 1000; decide) ?_
    have z2 := z1.set 1 (.ins (He.ga K "Plan") dx (putF "_low" (.ref l1) [])) rfl (.inl rfl)
    have g2 := on1 z2 (by simp) _ _ (away n2) h2
    walk_at "ev"
    -- self._high = list(high)
    intro l2 k2
    have z3 := z2.alloc (.lst (d.U.map V.int)) k2
    walk_at "ev"
    refine r_exsfld (z3.get (.tail _ (.tail _ (.head _)))) (T.cls 13) (T.noat 47) (by show 1 < 1000; decide) ?_
    have z4 := z3.set 2 (.ins (He.ga K "Plan") dx (putF "_high" (.ref l2) (putF "_low" (.ref l1) []))) rfl (.inl rfl)
    have g3 := on1 z4 (by simp) _ _ (away n3) h3
    walk_at "ev"
    -- self._least = list(least)
    intro l3 k3
    have z5 := z4.alloc (.lst (d.A.map V.int)) k3
    walk_at "ev"
    refine r_exsfld (z5.get (.tail _ (.tail _ (.tail _ (.head _))))) (T.cls 13) (T.noat 48) (by show 2 < 1000; decide) ?_
    have z6 := z5.set 3 (.ins (He.ga K "Plan") dx (putF "_least" (.ref l3) (putF "_high" (.ref l2) (putF "_low" (.ref l1) [])))) rfl (.inl rfl)
    have g4 := on1 z6 (by simp) _ _ (away n4) h4
    walk_at "ev"
    -- self._most = list(most)
    intro l4 k4
    have z7 := z6.alloc (.lst (d.B.map V.int)) k4
    walk_at "ev"
    refine r_exsfld (z7.get (.tail _ (.tail _ (.tail _ (.tail _ (.head _)))))) (T.cls 13) (T.noat 49) (by show 3 < 1000; decide) ?_
    have z8 := z7.set 4 (.ins (He.ga K "Plan") dx (flds l1 l2 l3 l4)) rfl (.inl rfl)
    exact k _ l1 l2 l3 l4 (on1 z8 (by simp)) (z8.get (.tail _ (.tail _ (.tail _ (.tail _ (.head _)))))) ⟨z8.get (.tail _ (.tail _ (.tail _ (.head _)))), z8.get (.tail _ (.tail _ (.head _))), z8.get (.tail _ (.head _)), z8.get (.head _)⟩
      ⟨z8.fresh (2, l1, _) (.tail _ (.tail _ (.tail _ (.head _)))) rfl, z8.fresh (2, l2, _) (.tail _ (.tail _ (.head _))) rfl, z8.fresh (2, l3, _) (.tail _ (.head _)) rfl, z8.fresh (2, l4, _) (.head _) rfl⟩
end

set_option Elab.async false
set_option linter.all false
set_option maxRecDepth 100000
set_option maxHeartbeats 4000000

/-! ## lists of integers compared -/
theorem dpAll_ints {K : PySem.W.Frag} {H : Hp} : ∀ ns : List Int, DpAll K H (ns.map V.int) (ns.map PyData.int)
  | [] => .nil
  | n :: r => .cons (.int n) (dpAll_ints r)
theorem canLay_ints : ∀ ns : List Int, PyData.canLayAll0 (ns.map PyData.int) = true
  | [] => rfl
  | n :: r => by
    rw [List.map_cons, PyData.canLayAll0, canLay_ints r]
    rfl
theorem depth_ints : ∀ ns : List Int, PyData.depthAll (ns.map PyData.int) = 0
  | [] => rfl
  | n :: r => by
    rw [List.map_cons, PyData.depthAll, depth_ints r]
    rfl
theorem shaped_ints (ns : List Int) : SeqAt.shaped (.list (ns.map PyData.int)) = true := by
  unfold SeqAt.shaped
  rw [PyData.canLay0, canLay_ints, PyData.depth, depth_ints]
  rfl
theorem r_eqI {K : PySem.W.Frag} {H : Hp} {Q : VK} {a b : Addr} {ns ms : List Int} (ha : SqL K H a (ns.map V.int)) (hb : SqL K H b (ms.map V.int)) (q : Q (.bl (decide (ns = ms))) H) : rEqD K (.ref a) (.ref b) H Q := by
  refine ⟨.list (ns.map PyData.int), .list (ms.map PyData.int), .lst ha (dpAll_ints ns), .lst hb (dpAll_ints ms), shaped_ints ns, shaped_ints ms, ?_⟩
  rw [PyData.eqv, PySem.W.ked_eqvAll]
  exact q
/-! ## plans read -/
section
variable {P : Program} {w : World} {K : PySem.W.Frag} {mg : Str → Option Value} {base : Heap}
abbrev CP (K : PySem.W.Frag) : Addr := He.ga K "Plan"
theorem r_low (T : Tx fa fn K mg base) {H : Hp} {p dx l1 l2 l3 l4 : Addr} {R : V → Prop} (h : H p = some (.ins (CP K) dx (flds l1 l2 l3 l4))) (q : R (.ref l1)) :
    ∃ b C dx fs v, V.ref p = .ref b ∧ H b = some (.ins C dx fs) ∧ Cls K C ∧ NoAttr K C "_low" ∧ fs.lookup ("_low" : Str) = some v ∧ R v := r_exfld h (T.cls 13) (T.noat 46) (flds_low _ _ _ _) q
theorem r_high (T : Tx fa fn K mg base) {H : Hp} {p dx l1 l2 l3 l4 : Addr} {R : V → Prop} (h : H p = some (.ins (CP K) dx (flds l1 l2 l3 l4))) (q : R (.ref l2)) :
    ∃ b C dx fs v, V.ref p = .ref b ∧ H b = some (.ins C dx fs) ∧ Cls K C ∧ NoAttr K C "_high" ∧ fs.lookup ("_high" : Str) = some v ∧ R v := r_exfld h (T.cls 13) (T.noat 47) (flds_high _ _ _ _) q
theorem r_least (T : Tx fa fn K mg base) {H : Hp} {p dx l1 l2 l3 l4 : Addr} {R : V → Prop} (h : H p = some (.ins (CP K) dx (flds l1 l2 l3 l4))) (q : R (.ref l3)) :
    ∃ b C dx fs v, V.ref p = .ref b ∧ H b = some (.ins C dx fs) ∧ Cls K C ∧ NoAttr K C "_least" ∧ fs.lookup ("_least" : Str) = some v ∧ R v := r_exfld h (T.cls 13) (T.noat 48) (flds_least _ _ _ _) q
theorem r_most (T : Tx fa fn K mg base) {H : Hp} {p dx l1 l2 l3 l4 : Addr} {R : V → Prop} (h : H p = some (.ins (CP K) dx (flds l1 l2 l3 l4))) (q : R (.ref l4)) :
    ∃ b C dx fs v, V.ref p = .ref b ∧ H b = some (.ins C dx fs) ∧ Cls K C ∧ NoAttr K C "_most" ∧ fs.lookup ("_most" : Str) = some v ∧ R v := r_exfld h (T.cls 13) (T.noat 49) (flds_most _ _ _ _) q
/-! ## properties -/
def sp_list (K : PySem.W.Frag) (f : PD → List Int) : Sp := fun vs H Q _ => ∃ (p : Addr) (d : PD), vs = [.ref p] ∧ PlanAt K [] H p d ∧ ∀ l, H l = none → Q (.ref l) (upd H l (.lst ((f d).map V.int)))
abbrev sp_Plan_low (K : PySem.W.Frag) : Sp := sp_list K PD.L
abbrev sp_Plan_high (K : PySem.W.Frag) : Sp := sp_list K PD.U
abbrev sp_Plan_least (K : PySem.W.Frag) : Sp := sp_list K PD.A
abbrev sp_Plan_most (K : PySem.W.Frag) : Sp := sp_list K PD.B
theorem k_Plan_low (T : Tx fa fn K mg base) : Prp P w K mg base (He.ga K "Plan") "low" 1 (sp_Plan_low K) := by
  refine T.prp 5 15 13 (q := "Plan.low") (st := s_Plan_low) sc_Plan_low (fun _ _ _ _ _ _ us hl => match us, hl with | [_], _ => rfl) (fun vs H Q E h => ?_) (fun cdv A outer s H vs Q E hr h => ?_)
  · obtain ⟨p, d, rfl, _⟩ := h
    rfl
  · obtain ⟨p, d, rfl, pd, k⟩ := h
    obtain ⟨dx, l1, l2, l3, l4, h0, ⟨h1, h2, h3, h4⟩, _⟩ := pd.ex
    refine ⟨_, (pss_one (ps_ret (pe_callTy call_list_of (by rfl) (T.fr 8) (by decide +kernel) (pa_cons (pe_fld (pv 0) rfl) pa_nil)))), ?_⟩
    walk_at "ev0"
    refine r_low T h0 ?_
    walk_at "ev"
    exact k
theorem k_Plan_high (T : Tx fa fn K mg base) : Prp P w K mg base (He.ga K "Plan") "high" 1 (sp_Plan_high K) := by
  refine T.prp 6 16 13 (q := "Plan.high") (st := s_Plan_high) sc_Plan_high (fun _ _ _ _ _ _ us hl => match us, hl with | [_], _ => rfl) (fun vs H Q E h => ?_) (fun cdv A outer s H vs Q E hr h => ?_)
  · obtain ⟨p, d, rfl, _⟩ := h
    rfl
  · obtain ⟨p, d, rfl, pd, k⟩ := h
    obtain ⟨dx, l1, l2, l3, l4, h0, ⟨h1, h2, h3, h4⟩, _⟩ := pd.ex
    refine ⟨_, (pss_one (ps_ret (pe_callTy call_list_of (by rfl) (T.fr 8) (by decide +kernel) (pa_cons (pe_fld (pv 0) rfl) pa_nil)))), ?_⟩
    walk_at "ev0"
    refine r_high T h0 ?_
    walk_at "ev"
    exact k
theorem k_Plan_most (T : Tx fa fn K mg base) : Prp P w K mg base (He.ga K "Plan") "most" 1 (sp_Plan_most K) := by
  refine T.prp 8 18 13 (q := "Plan.most") (st := s_Plan_most) sc_Plan_most (fun _ _ _ _ _ _ us hl => match us, hl with | [_], _ => rfl) (fun vs H Q E h => ?_) (fun cdv A outer s H vs Q E hr h => ?_)
  · obtain ⟨p, d, rfl, _⟩ := h
    rfl
  · obtain ⟨p, d, rfl, pd, k⟩ := h
    obtain ⟨dx, l1, l2, l3, l4, h0, ⟨h1, h2, h3, h4⟩, _⟩ := pd.ex
    refine ⟨_, (pss_one (ps_ret (pe_callTy call_list_of (by rfl) (T.fr 8) (by decide +kernel) (pa_cons (pe_fld (pv 0) rfl) pa_nil)))), ?_⟩
    walk_at "ev0"
    refine r_most T h0 ?_
    walk_at "ev"
    exact k
def sp_Plan_total (K : PySem.W.Frag) : Sp := fun vs H Q _ => ∃ (p : Addr) (d : PD), vs = [.ref p] ∧ PlanAt K [] H p d ∧ 1 ≤ d.L.length ∧ Q (.int (nth d.L (d.L.length - 1))) H
theorem k_Plan_total (T : Tx fa fn K mg base) : Prp P w K mg base (He.ga K "Plan") "total" 1 (sp_Plan_total K) := by
  refine T.prp 9 19 13 (q := "Plan.total") (st := s_Plan_total) sc_Plan_total (fun _ _ _ _ _ _ us hl => match us, hl with | [_], _ => rfl) (fun vs H Q E h => ?_) (fun cdv A outer s H vs Q E hr h => ?_)
  · obtain ⟨p, d, rfl, _⟩ := h
    rfl
  · obtain ⟨p, d, rfl, pd, h1l, k⟩ := h
    obtain ⟨dx, l1, l2, l3, l4, h0, ⟨h1, h2, h3, h4⟩, _⟩ := pd.ex
    refine ⟨_, (pss_one (ps_ret (pe_ix ix_list (pe_fld (pv 0) rfl) (pe_un un_neg pe_int) (fun _ _ => rfl)))), ?_⟩
    walk_at "ev0"
    refine r_low T h0 ?_
    walk_at "ev"
    refine r_at (atI_end (by omega)) ?_
    walk_at "ev"
    exact k
/-- a new plan made -/
theorem r_plan {H : Hp} {Q : VK} {a1 a2 a3 a4 : Addr} {d : PD} (ok : d.Ok) (h1 : H a1 = some (.lst (d.L.map V.int))) (h2 : H a2 = some (.lst (d.U.map V.int))) (h3 : H a3 = some (.lst (d.A.map V.int))) (h4 : H a4 = some (.lst (d.B.map V.int)))
    (k : ∀ p H', Fr [] H H' → NewP K H H' p d → Q (.ref p) H') : ∀ x dx, H x = none → H dx = none → dx ≠ x →
      sp_Plan___init__ K (.ref x :: ([.ref a1, .ref a2, .ref a3, .ref a4] ++ [])) (upd (upd H dx (.own x)) x (.ins (CP K) dx [])) (fun v H2 => v = .non ∧ Q (.ref x) H2) E0 := by
  intro x dx hx hdx hne
  have f1 : Fr [] H (upd H dx (.own x)) := (Fr.refl H).new hdx
  have hx1 : (upd H dx (.own x)) x = none := by
    rw [upd_ne hne.symm]
    exact hx
  have f2 : Fr [] H (upd (upd H dx (.own x)) x (.ins (CP K) dx [])) := f1.new hx1
  have nil : ∀ {a : Addr}, a ∉ ([] : List Addr) := fun m => nomatch m
  refine ⟨x, dx, a1, a2, a3, a4, d, rfl, upd_same, ⟨f2 _ _ nil h1, f2 _ _ nil h2, f2 _ _ nil h3, f2 _ _ nil h4⟩, ok, fun H' l1 l2 l3 l4 fr hx' hl hn => ⟨rfl, ?_⟩⟩
  have back : ∀ {l : Addr}, (upd (upd H dx (.own x)) x (.ins (CP K) dx [])) l = none → H l = none := fun {l} e => by
    cases e1 : H l with
    | none => rfl
    | some o =>
      rw [f2 l o nil e1] at e
      cases e
  refine k x H' (fun a o _ e => ?_) ⟨hx, fun J hJ => ⟨dx, l1, l2, l3, l4, hx', hl, ?_⟩⟩
  · exact fr a o (fun m => by
      rcases List.mem_cons.mp m with m | m
      · rw [m, hx] at e
        cases e
      · cases m) (f2 a o nil e)
  · have no : ∀ {l : Addr}, H l = none → l ∉ J := fun e m => by
      obtain ⟨o, e2⟩ := hJ _ m
      rw [e] at e2
      cases e2
    exact ⟨no hx, no (back hn.1), no (back hn.2.1), no (back hn.2.2.1), no (back hn.2.2.2)⟩
end

set_option Elab.async false
set_option linter.all false
set_option maxRecDepth 100000
set_option maxHeartbeats 4000000

section
variable {P : Program} {w : World} {K : PySem.W.Frag} {mg : Str → Option Value} {base : Heap}
/-! ## == -/
def sp_Plan___eq__ (K : PySem.W.Frag) : Sp := fun vs H Q _ => ∃ (p q : Addr) (d e : PD), vs = [.ref p, .ref q] ∧ PlanAt K [] H p d ∧ PlanAt K [] H q e ∧ Q (.bl (decide (d = e))) H
theorem pd_eq {d e : PD} : decide (d = e) = (decide (d.L = e.L) && (decide (d.U = e.U) && (decide (d.A = e.A) && decide (d.B = e.B)))) := by
  obtain ⟨a, b, c, f⟩ := d
  obtain ⟨a', b', c', f'⟩ := e
  simp [Bool.decide_and]
theorem k_Plan___eq__ (T : Tx fa fn K mg base) : Mth P w K mg base (He.ga K "Plan") "__eq__" ["self", "other"] 1 (sp_Plan___eq__ K) s_Plan___eq__ "Plan.__eq__" := by
  refine T.mth 11 22 13 (q := "Plan.__eq__") (st := s_Plan___eq__) sc_Plan___eq__ (fun _ _ _ _ _ _ us hl => match us, hl with | [_, _], _ => rfl) (fun vs H Q E h => ?_) (fun cdv A outer s H vs Q E hr h => ?_)
  · obtain ⟨p, q, d, e, rfl, _⟩ := h
    rfl
  · obtain ⟨p, q, d, e, rfl, pd, pe, k⟩ := h
    obtain ⟨dx, l1, l2, l3, l4, h0, ⟨h1, h2, h3, h4⟩, _⟩ := pd.ex
    obtain ⟨dy, m1, m2, m3, m4, g0, ⟨g1, g2, g3, g4⟩, _⟩ := pe.ex
    rw [pd_eq] at k
    refine ⟨_, (pss_one (ps_ret (pe_and (pe_callB call_isi (by rfl) (T.fr 0) (by decide +kernel) (pa_cons (pv 1) (pa_cons (pe_glob (v := .ref (He.ga K "Plan")) rfl (T.glo 21) rfl) pa_nil))) (pe_and (pe_cmpR (op_eqD hr.units) (pe_fld (pv 0) rfl) (pe_fld (pv 1) rfl) (nomark _)) (pe_and (pe_cmpR (op_eqD hr.units) (pe_fld (pv 0) rfl) (pe_fld (pv 1) rfl) (nomark _)) (pe_and (pe_cmpR (op_eqD hr.units) (pe_fld (pv 0) rfl) (pe_fld (pv 1) rfl) (nomark _)) (pe_one (pe_cmpR (op_eqD hr.units) (pe_fld (pv 0) rfl) (pe_fld (pv 1) rfl) (nomark _))))))))), ?_⟩
    walk_at "ev0"
    refine r_isi (.own _) (T.isi 42 13 g0) (T.kit 45) ?_
    walk_at "ev"
    refine r_low T h0 ?_
    walk_at "ev"
    refine r_low T g0 (r_eqI (SqL.of h1) (SqL.of g1) ?_)
    walk_at "ev"
    refine r_ite (fun z1 => ?_) (fun z1 => ?_)
    rotate_left
    · rw [decide_eq_false z1] at k
      exact k
    rw [decide_eq_true z1] at k
    walk_at "ev"
    refine r_high T h0 ?_
    walk_at "ev"
    refine r_high T g0 (r_eqI (SqL.of h2) (SqL.of g2) ?_)
    walk_at "ev"
    refine r_ite (fun z2 => ?_) (fun z2 => ?_)
    rotate_left
    · rw [decide_eq_false z2] at k
      exact k
    rw [decide_eq_true z2] at k
    walk_at "ev"
    refine r_least T h0 ?_
    walk_at "ev"
    refine r_least T g0 (r_eqI (SqL.of h3) (SqL.of g3) ?_)
    walk_at "ev"
    refine r_ite (fun z3 => ?_) (fun z3 => ?_)
    rotate_left
    · rw [decide_eq_false z3] at k
      exact k
    rw [decide_eq_true z3] at k
    walk_at "ev"
    refine r_most T h0 ?_
    walk_at "ev"
    refine r_most T g0 (r_eqI (SqL.of h4) (SqL.of g4) ?_)
    walk_at "ev"
    exact k
/-- x == y, x != y of two plans -/
theorem r_eqP {H : Hp} {Q : VK} {p q : Addr} {d e : PD} (pd : PlanAt K [] H p d) (pe : PlanAt K [] H q e) (k : Q (.bl (decide (d = e))) H) : rEqP (CP K) (sp_Plan___eq__ K) (.ref p) (.ref q) H Q := by
  obtain ⟨dx, l1, l2, l3, l4, h0, _⟩ := pd.ex
  obtain ⟨dy, m1, m2, m3, m4, g0, _⟩ := pe.ex
  exact ⟨p, dx, _, q, dy, _, rfl, rfl, h0, g0, p, q, d, e, rfl, pd, pe, _, rfl, k⟩
theorem r_neP {H : Hp} {Q : VK} {p q : Addr} {d e : PD} (pd : PlanAt K [] H p d) (pe : PlanAt K [] H q e) (k : Q (.bl (!decide (d = e))) H) : rNeP (CP K) (sp_Plan___eq__ K) (.ref p) (.ref q) H Q := by
  obtain ⟨dx, l1, l2, l3, l4, h0, _⟩ := pd.ex
  obtain ⟨dy, m1, m2, m3, m4, g0, _⟩ := pe.ex
  exact ⟨p, dx, _, q, dy, _, rfl, rfl, h0, g0, p, q, d, e, rfl, pd, pe, _, rfl, k⟩
end

set_option Elab.async false
set_option linter.all false
set_option maxRecDepth 100000
set_option maxHeartbeats 4000000

section
variable {P : Program} {w : World} {K : PySem.W.Frag} {mg : Str → Option Value} {base : Heap}
def sp_is_between (K : PySem.W.Frag) : Sp := fun vs H Q _ => ∃ i a b : Int, vs = [.int i, .int a, .int b] ∧ Q (.bl (decide (a ≤ i) && decide (i ≤ b))) H
theorem k_is_between (T : Tx fa fn K mg base) : Fk P w K mg base "is_between" ["thing", "least", "most"] 2 (sp_is_between K) s_is_between "is_between" := by
  refine T.fk 1 4 (q := "is_between") (st := s_is_between) sc_is_between (fun _ _ _ _ _ _ us hl => match us, hl with | [_, _, _], _ => rfl) (fun vs H Q E h => ?_) (fun cdv A outer s H vs Q E hr h => ?_)
  · obtain ⟨i, a, b, rfl, _⟩ := h
    rfl
  · obtain ⟨i, a, b, rfl, k⟩ := h
    refine ⟨_, (pss_one (ps_ret (pe_and (pe_f (k_is_whole T) hr (pa_cons (pv 0) pa_nil)) (pe_one (pe_chain op_le op_le (pv 1) (pv 0) (pv 2)))))), ?_⟩
    walk_at "ev0"
    refine whole_int ?_
    walk_at "ev"
    refine r_ite (fun z => ?_) (fun z => ?_)
    · rw [decide_eq_true z] at k
      walk_at "ev"
      exact k
    · rw [decide_eq_false z] at k
      exact k
theorem between {i a b : Int} {H : Hp} {Q : VK} (h1 : a ≤ i) (h2 : i ≤ b) (k : Q (.bl true) H) : sp_is_between K ([V.int i, V.int a, V.int b] ++ []) H Q E0 :=
  ⟨i, a, b, rfl, by rw [decide_eq_true h1, decide_eq_true h2]; exact k⟩
theorem k_Plan_least (T : Tx fa fn K mg base) : Prp P w K mg base (He.ga K "Plan") "least" 1 (sp_Plan_least K) := by
  refine T.prp 7 17 13 (q := "Plan.least") (st := s_Plan_least) sc_Plan_least (fun _ _ _ _ _ _ us hl => match us, hl with | [_], _ => rfl) (fun vs H Q E h => ?_) (fun cdv A outer s H vs Q E hr h => ?_)
  · obtain ⟨p, d, rfl, _⟩ := h
    rfl
  · obtain ⟨p, d, rfl, pd, k⟩ := h
    obtain ⟨dx, l1, l2, l3, l4, h0, ⟨h1, h2, h3, h4⟩, _⟩ := pd.ex
    refine ⟨_, (pss_one (ps_ret (pe_callTy call_list_of (by rfl) (T.fr 8) (by decide +kernel) (pa_cons (pe_fld (pv 0) rfl) pa_nil)))), ?_⟩
    walk_at "ev0"
    refine r_least T h0 ?_
    walk_at "ev"
    exact k
def sp_Plan___len__ (K : PySem.W.Frag) : Sp := fun vs H Q _ => ∃ (p : Addr) (d : PD), vs = [.ref p] ∧ PlanAt K [] H p d ∧ Q (.int (d.L.length : Nat)) H
theorem k_Plan___len__ (T : Tx fa fn K mg base) : Mth P w K mg base (He.ga K "Plan") "__len__" ["self"] 1 (sp_Plan___len__ K) s_Plan___len__ "Plan.__len__" := by
  refine T.mth 10 20 13 (q := "Plan.__len__") (st := s_Plan___len__) sc_Plan___len__ (fun _ _ _ _ _ _ us hl => match us, hl with | [_], _ => rfl) (fun vs H Q E h => ?_) (fun cdv A outer s H vs Q E hr h => ?_)
  · obtain ⟨p, d, rfl, _⟩ := h
    rfl
  · obtain ⟨p, d, rfl, pd, k⟩ := h
    obtain ⟨dx, l1, l2, l3, l4, h0, ⟨h1, h2, h3, h4⟩, _⟩ := pd.ex
    refine ⟨_, (pss_one (ps_ret (pe_callB call_len_seq (by rfl) (T.fr 6) (by decide +kernel) (pa_cons (pe_fld (pv 0) rfl) pa_nil)))), ?_⟩
    walk_at "ev0"
    refine r_low T h0 ?_
    walk_at "ev"
    rw [show (d.L.map V.int).length = d.L.length from List.length_map _]
    exact k
/-- len of a plan -/
theorem r_lenD {H : Hp} {Q : VK} {p : Addr} {d : PD} (pd : PlanAt K [] H p d) (hl : d.L.length < 1000000) (q : Q (.int (d.L.length : Nat)) H) : rLenP (CP K) (sp_Plan___len__ K) [.ref p] H Q := by
  obtain ⟨dx, l1, l2, l3, l4, h0, _⟩ := pd.ex
  exact ⟨p, dx, _, rfl, h0, p, d, rfl, pd, d.L.length, rfl, hl, q⟩
end

set_option Elab.async false
set_option linter.all false
set_option maxRecDepth 100000
set_option maxHeartbeats 4000000

section
variable {P : Program} {w : World} {K : PySem.W.Frag} {mg : Str → Option Value} {base : Heap}
theorem abs_lt {x : Int} {n : Nat} (h0 : 0 ≤ x) (h : x < 2 ^ n) : x.natAbs < 2 ^ n := by
  have e : ((2 ^ n : Nat) : Int) = (2 : Int) ^ n := by simp
  omega
/-! ## a jar made -/
def sp__law_jar (K : PySem.W.Frag) : Sp := fun vs H Q _ => ∃ (a : Addr) (ns : List Int) (k : Int), vs = [.ref a, .int k] ∧ SqL K H a (ns.map V.int) ∧ (0 ≤ k ∧ k ≤ 1000) ∧ ∀ p H', H p = none → Fr [] H H' → JarAt H' p 1000000 → Q (.ref p) H'
theorem k__law_jar (T : Tx fa fn K mg base) : Fk P w K mg base "_law_jar" ["script", "k"] 1 (sp__law_jar K) s__law_jar "_law_jar" := by
  refine T.fk 16 31 (q := "_law_jar") (st := s__law_jar) sc__law_jar (fun _ _ _ _ _ _ us hl => match us, hl with | [_, _], _ => rfl) (fun vs H Q E h => ?_) (fun cdv A outer s H vs Q E hr h => ?_)
  · obtain ⟨a, ns, k, rfl, _⟩ := h
    rfl
  · obtain ⟨a, ns, k, rfl, ha, hk, q⟩ := h
    have hl : (ns.map V.int).length = ns.length := List.length_map _
    refine ⟨_, (pss_cons (ps_set (i := 2) sc__law_jar.nd rfl (by first | exact Or.inl rfl | exact Or.inr rfl) (pe_ifExp (pt_cmpR op_lt (pv 1) (pe_callB call_len_seq (by rfl) (T.fr 6) (by decide +kernel) (pa_cons (pv 0) pa_nil)) (nomark _)) (pe_callB call_abs (by rfl) (T.fr 30) (by decide +kernel) (pa_cons (pe_ix ix_list (pv 0) (pv 1) (fun _ _ => rfl)) pa_nil)) pe_int))
      (pss_one (ps_ret (pe_lst (pa_cons (pe_callB (call_max2 rfl) (by rfl) (T.fr 26) (by decide +kernel) (pa_cons pe_int (pa_cons (pe_op op_sub (pv 2) (pe_op op_powW pe_int pe_int)) pa_nil))) (pa_cons (pe_op op_add (pe_op op_mulW (pe_op op_mod (pe_callTy call_int1 (by rfl) (T.fr 2) (by decide +kernel) (pa_cons (pv 2) pa_nil)) (pe_op op_add (pe_op op_powW pe_int pe_int) pe_int)) pe_int) (pe_op op_mulW pe_int (pv 1))) (pa_cons pe_int pa_nil))))))), ?_⟩
    walk_at "ev0"
    have key : ∀ z : Int, 0 ≤ z → ∀ k : Int, 0 ≤ k → k ≤ 1000 → ∀ p, H p = none → JarAt (upd H p (JarO (if z - 10 ^ Int.toNat 18 > 0 then z - 10 ^ Int.toNat 18 else 0) (z % (10 ^ Int.toNat 43 + 57) * 101 + 70001 * k) 0)) p 1000000 := fun z hz k k0 k1 p hp => by
      have e0 : 0 ≤ z % (10 ^ Int.toNat 43 + 57) := Int.emod_nonneg _ (by decide +kernel)
      have e1 : z % (10 ^ Int.toNat 43 + 57) < 2 ^ 150 := Int.lt_trans (Int.emod_lt_of_pos _ (by decide +kernel)) (by decide +kernel)
      refine ⟨_, _, _, upd_same, ?_, ?_, ?_, by decide, by decide⟩
      · split <;> omega
      · omega
      · omega
    have go : ∀ z : Int, 0 ≤ z → (∀ p, H p = none → Q (.ref p) (upd H p (JarO (if z - 10 ^ Int.toNat 18 > 0 then z - 10 ^ Int.toNat 18 else 0) (z % (10 ^ Int.toNat 43 + 57) * 101 + 70001 * k) 0))) := fun z hz p hp => q p _ hp ((Fr.refl H).new hp) (key z hz k hk.1 hk.2 p hp)
    have m1 : ∀ z : Int, CMulW (z % (10 ^ Int.toNat 43 + 57)) 101 := fun z => by
      have e0 : 0 ≤ z % (10 ^ Int.toNat 43 + 57) := Int.emod_nonneg _ (by decide +kernel)
      have e1 : z % (10 ^ Int.toNat 43 + 57) < 2 ^ 150 := Int.lt_trans (Int.emod_lt_of_pos _ (by decide +kernel)) (by decide +kernel)
      exact wide_mul (a := 150) (b := 30) (natAbs_lt (by omega) e1) (by decide) (by decide) (by decide) (by decide)
    have m2 : CMulW 70001 k := wide_mul (a := 30) (b := 30) (by decide) (natAbs_lt (by omega) (by omega)) (by decide) (by decide) (by decide)
    refine r_ite (fun hlt => ?_) (fun hlt => ?_)
    · walk_at "ev"
      refine r_at (atI_nth (by omega) (by omega)) ?_
      walk_at "ev"
      refine r_I (by decide +kernel) ?_
      walk_at "ev"
      refine r_I (m1 _) ?_
      walk_at "ev"
      refine r_I m2 ?_
      walk_at "ev"
      exact go _ (by split <;> omega)
    · walk_at "ev"
      refine r_I (by decide +kernel) ?_
      walk_at "ev"
      refine r_I (m1 _) ?_
      walk_at "ev"
      refine r_I m2 ?_
      walk_at "ev"
      exact go _ (by decide)
/-! ## a draw -/
def sp__law_dip (K : PySem.W.Frag) : Sp := fun vs H Q _ => ∃ (j : Addr) (m : Int) (n : Nat), vs = [.ref j, .int m] ∧ JarAt H j (n + 1) ∧ 0 < m ∧ m < 2 ^ 1000 ∧ ∀ v H', 0 ≤ v → v < m → Fr [j] H H' → JarAt H' j n → Q (.int v) H'
theorem k__law_dip (T : Tx fa fn K mg base) : Fk P w K mg base "_law_dip" ["jar", "many"] 1 (sp__law_dip K) s__law_dip "_law_dip" := by
  refine T.fk 17 32 (q := "_law_dip") (st := s__law_dip) sc__law_dip (fun _ _ _ _ _ _ us hl => match us, hl with | [_, _], _ => rfl) (fun vs H Q E h => ?_) (fun cdv A outer s H vs Q E hr h => ?_)
  · obtain ⟨j, m, n, rfl, _⟩ := h
    rfl
  · obtain ⟨j, m, n, rfl, ⟨a, b, c, hj, jb⟩, m0, m1, k⟩ := h
    have wm := abs_lt (Int.le_of_lt m0) m1
    have fr1 : ∀ {o : HO}, Fr [j] H (upd H j o) := fun {o} x u hx e => by
      rw [upd_ne (fun z => hx (by rw [z]; exact List.mem_cons_self))]
      exact e
    refine ⟨_, (pss_cons (ps_if (pt_cmpR op_gt (pe_ix ix_list (pv 0) pe_int (fun _ _ => rfl)) pe_int (nomark _)) (pss_cons (ps_set (i := 2) sc__law_dip.nd rfl (by first | exact Or.inl rfl | exact Or.inr rfl) (pe_op op_mod (pe_callTy call_int1 (by rfl) (T.fr 2) (by decide +kernel) (pa_cons (pe_ix ix_list (pv 0) pe_int (fun _ _ => rfl)) pa_nil)) (pv 1)))
      (pss_cons (ps_asg (pe_op op_fdivW (pe_ix ix_list (pv 0) pe_int (fun _ _ => rfl)) (pv 1)) (pg_sub (pv 0) pe_int set_list))
      (pss_one (ps_ret (pv 2))))) pss_nil)
      (pss_cons (ps_asg (pe_op op_add (pe_ix ix_list (pv 0) pe_int (fun _ _ => rfl)) pe_int) (pg_sub (pv 0) pe_int set_list))
      (pss_cons (ps_set (i := 3) sc__law_dip.nd rfl (by first | exact Or.inl rfl | exact Or.inr rfl) (pe_op op_mod (pe_callTy call_int1 (by rfl) (T.fr 2) (by decide +kernel) (pa_cons (pe_op op_powW (pe_op op_add (pe_ix ix_list (pv 0) pe_int (fun _ _ => rfl)) (pe_op op_mulW pe_int (pe_ix ix_list (pv 0) pe_int (fun _ _ => rfl)))) pe_int) pa_nil)) (pe_op op_add (pe_op op_powW pe_int pe_int) pe_int)))
      (pss_cons (ps_set (i := 3) sc__law_dip.nd rfl (by first | exact Or.inl rfl | exact Or.inr rfl) (pe_op op_mod (pe_callTy call_int1 (by rfl) (T.fr 2) (by decide +kernel) (pa_cons (pe_op op_powW (pe_op op_add (pv 3) (pe_op op_mulW pe_int (pe_ix ix_list (pv 0) pe_int (fun _ _ => rfl)))) pe_int) pa_nil)) (pe_op op_add (pe_op op_powW pe_int pe_int) pe_int)))
      (pss_one (ps_ret (pe_op op_mod (pe_callTy call_int1 (by rfl) (T.fr 2) (by decide +kernel) (pa_cons (pe_op op_fdivW (pv 3) pe_int) pa_nil)) (pv 1)))))))), ?_⟩
    walk_at "ev0"
    refine r_ite (fun h0 => ?_) (fun h0 => ?_)
    · walk_at "ev"
      refine r_I m0 ?_
      walk_at "ev"
      refine r_I (wide_div m0 wm (by decide) (by decide)) ?_
      walk_at "ev"
      exact k _ _ (Int.emod_nonneg _ (by omega)) (Int.emod_lt_of_pos _ m0) fr1 ⟨a / m, b, c, upd_same, Int.ediv_nonneg jb.a0 (by omega), jb.b0, jb.b1, jb.c0, by have := jb.c1; omega⟩
    · have c1 := jb.c1
      have c0 := jb.c0
      have b0 := jb.b0
      have b1 := jb.b1
      walk_at "ev"
      refine r_I (wide_mul (a := 30) (b := 30) (by decide) (natAbs_lt (by omega) (by omega)) (by decide) (by decide) (by decide)) ?_
      walk_at "ev"
      refine r_I (powW (b := 201) (by decide) (by decide) (natAbs_lt (by omega) (by omega)) (by decide) (by decide)) ?_
      walk_at "ev"
      refine r_I (by decide +kernel) ?_
      generalize hx : (b + 60000049 * (c + 1)) ^ Int.toNat 3 % (10 ^ Int.toNat 47 + 91) = x
      have x0 : 0 ≤ x := by
        rw [← hx]
        exact Int.emod_nonneg _ (by decide +kernel)
      have x1 : x < 2 ^ 200 := by
        rw [← hx]
        exact Int.lt_trans (Int.emod_lt_of_pos _ (by decide +kernel)) (by decide +kernel)
      walk_at "ev"
      refine r_I (wide_mul (a := 30) (b := 30) (by decide) (natAbs_lt (by omega) (by omega)) (by decide) (by decide) (by decide)) ?_
      walk_at "ev"
      refine r_I (powW (b := 201) (by decide) (by decide) (natAbs_lt (by omega) (by omega)) (by decide) (by decide)) ?_
      walk_at "ev"
      refine r_I (by decide +kernel) ?_
      walk_at "ev"
      refine r_I (wide_div (b := 40) (by decide) (by decide) (by decide) (by decide)) ?_
      walk_at "ev"
      refine r_I m0 ?_
      walk_at "ev"
      exact k _ _ (Int.emod_nonneg _ (by omega)) (Int.emod_lt_of_pos _ m0) fr1 ⟨a, b, c + 1, upd_same, jb.a0, jb.b0, jb.b1, by omega, by omega⟩
end

set_option Elab.async false
set_option linter.all false
set_option maxRecDepth 100000
set_option maxHeartbeats 4000000

theorem nth_app_lt {ns : List Int} {x : Int} {i : Nat} (h : i < ns.length) : nth (ns ++ [x]) i = nth ns i := by
  unfold nth
  rw [List.getD_eq_getElem?_getD, List.getD_eq_getElem?_getD, List.getElem?_append_left h]
theorem nth_app_at {ns : List Int} {x : Int} {i : Nat} (h : i = ns.length) : nth (ns ++ [x]) i = x := by
  unfold nth
  rw [List.getD_eq_getElem?_getD, h, List.getElem?_concat_length]
  rfl
theorem nth_set_ne {ns : List Int} {x : Int} {i k : Nat} (h : i ≠ k) : nth (ns.set k x) i = nth ns i := by
  unfold nth
  rw [List.getD_eq_getElem?_getD, List.getD_eq_getElem?_getD, List.getElem?_set_ne (Ne.symm h)]
theorem nth_set_at {ns : List Int} {x : Int} {k : Nat} (h : k < ns.length) : nth (ns.set k x) k = x := by
  unfold nth
  rw [List.getD_eq_getElem?_getD, List.getElem?_set_self h]
  rfl
/-- the sum of the first ones, up to the i-th -/
def psum (ns : List Int) (i : Nat) : Int := (ns.take (i + 1)).sum
theorem take_sum {ns : List Int} {i : Nat} (h : i < ns.length) : (ns.take (i + 1)).sum = (ns.take i).sum + nth ns i := by
  rw [← getElem_nth h]
  exact sum_take (List.getElem?_eq_getElem h)
theorem ixN_end {n : Nat} (h : 0 < n) : ixN n (-1) = some (n - 1) := by
  unfold ixN
  rw [if_neg (by decide), if_pos (by omega)]
  congr 1
  omega
/-- bounds around the entries ns -/
structure RawOk (ns : List Int) (d : PD) : Prop where
  lL : d.L.length = ns.length
  lU : d.U.length = ns.length
  lA : d.A.length = ns.length
  lB : d.B.length = ns.length
  l : ∀ i, i < ns.length → nth d.L i ≤ psum ns i
  u : ∀ i, i < ns.length → psum ns i ≤ nth d.U i
  a : ∀ i, i < ns.length → nth d.A i ≤ nth ns i
  b : ∀ i, i < ns.length → nth ns i ≤ nth d.B i
  tL : nth d.L (ns.length - 1) = psum ns (ns.length - 1)
  tU : nth d.U (ns.length - 1) = psum ns (ns.length - 1)
  w : ∀ i, i < ns.length → nth d.U i - nth d.L i ≤ 2 ^ 160
  v : ∀ i, i < ns.length → nth d.B i - nth d.A i ≤ 2 ^ 160
  e : ∀ x ∈ ns, -(2 ^ 110) ≤ x ∧ x ≤ 2 ^ 110
theorem RawOk.ok {ns : List Int} {d : PD} (r : RawOk ns d) (h1 : 1 ≤ ns.length) (h2 : ns.length ≤ 200) : d.Ok where
  one := by rw [r.lL]; exact h1
  most := by rw [r.lL]; exact h2
  lU := by rw [r.lL, r.lU]
  lA := by rw [r.lL, r.lA]
  lB := by rw [r.lL, r.lB]
  lu := fun i hi => by
    rw [r.lL] at hi
    exact Int.le_trans (r.l i hi) (r.u i hi)
  ab := fun i hi => by
    rw [r.lL] at hi
    exact Int.le_trans (r.a i hi) (r.b i hi)
  tot := by rw [r.lL, r.tL, r.tU]
/-- the four lists of bounds as they lie -/
abbrev rawN (t l1 l2 l3 l4 : Addr) (d : PD) : List (Addr × HO) := [(t, .tup [.ref l1, .ref l2, .ref l3, .ref l4]), (l1, .lst (d.L.map V.int)), (l2, .lst (d.U.map V.int)), (l3, .lst (d.A.map V.int)), (l4, .lst (d.B.map V.int))]
section
variable {P : Program} {w : World} {K : PySem.W.Frag} {mg : Str → Option Value} {base : Heap}
def sp__law_around (K : PySem.W.Frag) : Sp := fun vs H Q _ => ∃ (j dr : Addr) (ns : List Int) (wide : Int) (n : Nat), vs = [.ref j, .ref dr, .int wide] ∧ (H dr = some (.lst (ns.map V.int)) ∧ dr ≠ j) ∧ JarAt H j (n + 4 * ns.length) ∧ (1 ≤ ns.length ∧ ns.length ≤ 200) ∧ (0 < wide ∧ wide < 2 ^ 150) ∧ (∀ x ∈ ns, -(2 ^ 110) ≤ x ∧ x ≤ 2 ^ 110) ∧
  ∀ t l1 l2 l3 l4 d H', Fr [j] H H' → JarAt H' j n → New H H' (rawN t l1 l2 l3 l4 d) → RawOk ns d → (∀ i, i < ns.length → nth d.U i - nth d.L i ≤ 2 * wide) → Q (.ref t) H'
theorem k__law_around (T : Tx fa fn K mg base) : Fk P w K mg base "_law_around" ["jar", "drawn", "wide"] 2 (sp__law_around K) s__law_around "_law_around" := by
  refine T.fk 18 33 (q := "_law_around") (st := s__law_around) sc__law_around (fun _ _ _ _ _ _ us hl => match us, hl with | [_, _, _], _ => rfl) (fun vs H Q E h => ?_) (fun cdv A outer s H vs Q E hr h => ?_)
  · obtain ⟨j, dr, ns, wide, n, rfl, _⟩ := h
    rfl
  · obtain ⟨j, dr, ns, wide, n, rfl, ⟨hd, nd⟩, hj, ⟨h1, h2⟩, ⟨w0, w1⟩, bnd, k⟩ := h
    refine ⟨_, (pss_cons (ps_asg (pe_tup (pa_cons (pe_lst pa_nil) (pa_cons (pe_lst pa_nil) (pa_cons (pe_lst pa_nil) (pa_cons (pe_lst pa_nil) (pa_cons pe_int pa_nil)))))) (pg_tup rfl (pgs_cons (pg_name (i := 3) sc__law_around.nd rfl (by first | exact Or.inl rfl | exact Or.inr rfl)) (pgs_cons (pg_name (i := 4) sc__law_around.nd rfl (by first | exact Or.inl rfl | exact Or.inr rfl)) (pgs_cons (pg_name (i := 5) sc__law_around.nd rfl (by first | exact Or.inl rfl | exact Or.inr rfl)) (pgs_cons (pg_name (i := 6) sc__law_around.nd rfl (by first | exact Or.inl rfl | exact Or.inr rfl)) (pgs_cons (pg_name (i := 7) sc__law_around.nd rfl (by first | exact Or.inl rfl | exact Or.inr rfl)) pgs_nil)))))))
      (pss_cons (ps_for PassesOwn.never rfl (pi_list (pv 1)) (pg_name (i := 8) sc__law_around.nd rfl (by first | exact Or.inl rfl | exact Or.inr rfl)) (pss_cons (ps_set (i := 7) sc__law_around.nd rfl (by first | exact Or.inl rfl | exact Or.inr rfl) (pe_op op_add (pv 7) (pv 8)))
      (pss_cons (ps_expr (pe_bm PySem.F.plainAttrs_list PySem.F.slot_list_append PySem.F.type_list_append mt_append (pv 3) (pa_cons (pe_op op_sub (pv 7) (pe_f (k__law_dip T) hr (pa_cons (pv 0) (pa_cons (pv 2) pa_nil)))) pa_nil)))
      (pss_cons (ps_expr (pe_bm PySem.F.plainAttrs_list PySem.F.slot_list_append PySem.F.type_list_append mt_append (pv 4) (pa_cons (pe_op op_add (pv 7) (pe_f (k__law_dip T) hr (pa_cons (pv 0) (pa_cons (pv 2) pa_nil)))) pa_nil)))
      (pss_cons (ps_expr (pe_bm PySem.F.plainAttrs_list PySem.F.slot_list_append PySem.F.type_list_append mt_append (pv 5) (pa_cons (pe_op op_sub (pv 8) (pe_f (k__law_dip T) hr (pa_cons (pv 0) (pa_cons (pv 2) pa_nil)))) pa_nil)))
      (pss_one (ps_expr (pe_bm PySem.F.plainAttrs_list PySem.F.slot_list_append PySem.F.type_list_append mt_append (pv 6) (pa_cons (pe_op op_add (pv 8) (pe_f (k__law_dip T) hr (pa_cons (pv 0) (pa_cons (pv 2) pa_nil)))) pa_nil)))))))))
      (pss_cons (ps_asg (pe_tup (pa_cons (pv 7) (pa_cons (pv 7) pa_nil))) (pg_tup rfl (pgs_cons (pg_sub (pv 3) (pe_un un_neg pe_int) set_list) (pgs_cons (pg_sub (pv 4) (pe_un un_neg pe_int) set_list) pgs_nil))))
      (pss_one (ps_ret (pe_tup (pa_cons (pv 3) (pa_cons (pv 4) (pa_cons (pv 5) (pa_cons (pv 6) pa_nil)))))))))), ?_⟩
    walk_at "ev0"
    have z0 := ZJ.start hj
    intro l1 k1
    have z1 := z0.alloc (.lst []) k1
    walk_at "ev"
    intro l2 k2
    have z2 := z1.alloc (.lst []) k2
    walk_at "ev"
    intro l3 k3
    have z3 := z2.alloc (.lst []) k3
    walk_at "ev"
    intro l4 k4
    have z4 := z3.alloc (.lst []) k4
    walk_at "ev"
    intro t0 k5
    have z5 := z4.alloc (.tup [.ref l1, .ref l2, .ref l3, .ref l4, .int 0]) k5
    walk_at "ev"
    have z6 := z5.sub (E' := [(2, l4, .lst []), (2, l3, .lst []), (2, l2, .lst []), (2, l1, .lst [])]) (.cons _ (List.Sublist.refl _))
    refine for_it (walk_list (xs := ns.map V.int)) (fun i σ H' => ∃ (d : PD) (v : Option V), σ = [some (.ref j), some (.ref dr), some (.int wide), some (.ref l1), some (.ref l2), some (.ref l3), some (.ref l4), some (.int (ns.take i).sum), v] ∧
      ZJ H H' j (n + 4 * (ns.length - i)) [(2, l4, .lst (d.B.map V.int)), (2, l3, .lst (d.A.map V.int)), (2, l2, .lst (d.U.map V.int)), (2, l1, .lst (d.L.map V.int))] ∧ (d.L.length = i ∧ d.U.length = i ∧ d.A.length = i ∧ d.B.length = i) ∧
      (∀ x, x < i → nth d.L x ≤ psum ns x ∧ psum ns x ≤ nth d.U x ∧ nth d.A x ≤ nth ns x ∧ nth ns x ≤ nth d.B x ∧ nth d.U x - nth d.L x ≤ 2 * wide ∧ nth d.B x - nth d.A x ≤ 2 * wide)) ⟨⟨[], [], [], []⟩, none, rfl, z6, ⟨rfl, rfl, rfl, rfl⟩, fun x hx => absurd hx (Nat.not_lt_zero x)⟩ (fun i σ H' _ p => ?_) (fun i x σ H' H'' hi p y => ?_) (fun σ H' p => ?_)
    · obtain ⟨d, v, _, z, _⟩ := p
      exact SqL.of (z.keep hd nd)
    · obtain ⟨d, v, rfl, z, ⟨m1, m2, m3, m4⟩, hp⟩ := p
      obtain ⟨rfl, hx⟩ := y
      obtain rfl := nth_at hx
      have hi' : i < ns.length := by simpa using hi
      walk_at "ev"
      refine ⟨j, wide, n + 4 * (ns.length - i) - 1, rfl, z.jar.le (by omega), w0, Int.lt_trans w1 (by decide +kernel), fun v1 G1 a1 b1 f1 q1 => ?_⟩
      have y1 := z.dips f1 q1
      walk_at "ev"
      have y2 := y1.set 3 (.lst (d.L.map V.int ++ [.int ((ns.take i).sum + nth ns i - v1)])) rfl
      walk_at "ev"
      refine ⟨j, wide, n + 4 * (ns.length - i) - 2, rfl, y2.jar.le (by omega), w0, Int.lt_trans w1 (by decide +kernel), fun v2 G2 a2 b2 f2 q2 => ?_⟩
      have y3 := y2.dips f2 q2
      walk_at "ev"
      have y4 := y3.set 2 (.lst (d.U.map V.int ++ [.int ((ns.take i).sum + nth ns i + v2)])) rfl
      walk_at "ev"
      refine ⟨j, wide, n + 4 * (ns.length - i) - 3, rfl, y4.jar.le (by omega), w0, Int.lt_trans w1 (by decide +kernel), fun v3 G3 a3 b3 f3 q3 => ?_⟩
      have y5 := y4.dips f3 q3
      walk_at "ev"
      have y6 := y5.set 1 (.lst (d.A.map V.int ++ [.int (nth ns i - v3)])) rfl
      walk_at "ev"
      refine ⟨j, wide, n + 4 * (ns.length - i) - 4, rfl, y6.jar.le (by omega), w0, Int.lt_trans w1 (by decide +kernel), fun v4 G4 a4 b4 f4 q4 => ?_⟩
      have y7 := y6.dips f4 q4
      walk_at "ev"
      have y8 := y7.set 0 (.lst (d.B.map V.int ++ [.int (nth ns i + v4)])) rfl
      refine ⟨⟨d.L ++ [(ns.take i).sum + nth ns i - v1], d.U ++ [(ns.take i).sum + nth ns i + v2], d.A ++ [nth ns i - v3], d.B ++ [nth ns i + v4]⟩, some (.int (nth ns i)), ?_, ?_, ⟨by simp [m1], by simp [m2], by simp [m3], by simp [m4]⟩, fun x hx => ?_⟩
      · rw [take_sum hi']
        rfl
      · simp only [List.map_append, List.map_cons, List.map_nil]
        exact y8.le (by omega)
      · have es : psum ns i = (ns.take i).sum + nth ns i := take_sum hi'
        rcases Nat.lt_or_ge x i with hxi | hxi
        · rw [nth_app_lt (by omega), nth_app_lt (by omega), nth_app_lt (by omega), nth_app_lt (by omega)]
          exact hp x hxi
        · have e : x = i := by omega
          subst e
          rw [nth_app_at m1.symm, nth_app_at m2.symm, nth_app_at m3.symm, nth_app_at m4.symm]
          omega
    · obtain ⟨d, v, rfl, z, ⟨m1, m2, m3, m4⟩, hp⟩ := p
      rw [List.length_map] at m1 m2 m3 m4
      have z := z.le (m := n) (by omega)
      rw [List.length_map] at hp
      have hs : (ns.take (ns.map V.int).length).sum = psum ns (ns.length - 1) := by
        unfold psum
        rw [List.length_map, show ns.length - 1 + 1 = ns.length by omega]
      rw [hs]
      generalize hS : psum ns (ns.length - 1) = S
      walk_at "ev"
      intro t1 k6
      have y1 := z.alloc (.tup [.int S, .int S]) k6
      walk_at "ev"
      refine r_ixn (ixN_end (by rw [List.length_map]; omega)) ?_
      have y2 := y1.set 4 (.lst ((d.L.map V.int).set ((d.L.map V.int).length - 1) (.int S))) rfl
      walk_at "ev"
      refine r_ixn (ixN_end (by rw [List.length_map]; omega)) ?_
      have y3 := y2.set 3 (.lst ((d.U.map V.int).set ((d.U.map V.int).length - 1) (.int S))) rfl
      walk_at "ev"
      intro t2 k7
      have y4 := y3.alloc (.tup [.ref l1, .ref l2, .ref l3, .ref l4]) k7
      have e1 : (d.L.map V.int).set ((d.L.map V.int).length - 1) (.int S) = (d.L.set (ns.length - 1) S).map V.int := by rw [List.map_set, List.length_map, m1]
      have e2 : (d.U.map V.int).set ((d.U.map V.int).length - 1) (.int S) = (d.U.set (ns.length - 1) S).map V.int := by rw [List.map_set, List.length_map, m2]
      simp only [e1, e2] at y4 ⊢
      have hw : ∀ i, i < ns.length → nth (d.U.set (ns.length - 1) S) i - nth (d.L.set (ns.length - 1) S) i ≤ 2 * wide := fun i hi => by
        by_cases e : i = ns.length - 1
        · subst e
          rw [nth_set_at (by omega), nth_set_at (by omega)]
          omega
        · rw [nth_set_ne e, nth_set_ne e]
          exact (hp i hi).2.2.2.2.1
      refine k t2 l1 l2 l3 l4 ⟨d.L.set (ns.length - 1) S, d.U.set (ns.length - 1) S, d.A, d.B⟩ _ y4.fr y4.jar ?_ ?_ hw
      · exact y4.pick [0, 5, 4, 3, 2] rfl
      · have last : ∀ {l : List Int}, l.length = ns.length → nth (l.set (ns.length - 1) S) (ns.length - 1) = S := fun {l} e => nth_set_at (by omega)
        refine ⟨by simp [m1], by simp [m2], m3, m4, fun i hi => ?_, fun i hi => ?_, fun i hi => (hp i hi).2.2.1, fun i hi => (hp i hi).2.2.2.1, ?_, ?_, fun i hi => Int.le_trans (hw i hi) ?_, fun i hi => Int.le_trans (hp i hi).2.2.2.2.2 ?_, bnd⟩
        · by_cases e : i = ns.length - 1
          · subst e
            rw [last m1, hS]
            exact Int.le_refl _
          · rw [nth_set_ne e]
            exact (hp i hi).1
        · by_cases e : i = ns.length - 1
          · subst e
            rw [last m2, hS]
            exact Int.le_refl _
          · rw [nth_set_ne e]
            exact (hp i hi).2.1
        · rw [hS]
          exact last m1
        · rw [hS]
          exact last m2
        · have : (2 : Int) * 2 ^ 150 ≤ 2 ^ 160 := by decide +kernel
          omega
        · have : (2 : Int) * 2 ^ 150 ≤ 2 ^ 160 := by decide +kernel
          omega
/-- one of three written numbers -/
theorem three {a b c : Int} {v : Int} (h0 : 0 ≤ v) (h1 : v < 3) : ∃ x, atI [V.int a, V.int b, V.int c] v = some (.int x) ∧ (x = a ∨ x = b ∨ x = c) := by
  rcases (show v = 0 ∨ v = 1 ∨ v = 2 by omega) with rfl | rfl | rfl
  · exact ⟨a, rfl, .inl rfl⟩
  · exact ⟨b, rfl, .inr (.inl rfl)⟩
  · exact ⟨c, rfl, .inr (.inr rfl)⟩
/-- other bounds of the entries -/
theorem RawOk.with {ns : List Int} {d : PD} (r : RawOk ns d) {A B : List Int} (lA : A.length = ns.length) (lB : B.length = ns.length) (a : ∀ i, i < ns.length → nth A i ≤ nth ns i) (b : ∀ i, i < ns.length → nth ns i ≤ nth B i) (v : ∀ i, i < ns.length → nth B i - nth A i ≤ 2 ^ 160) : RawOk ns ⟨d.L, d.U, A, B⟩ :=
  ⟨r.lL, r.lU, lA, lB, r.l, r.u, a, b, r.tL, r.tU, r.w, v, r.e⟩
/-! ## small bounds -/
def sp__law_small (K : PySem.W.Frag) : Sp := fun vs H Q _ => ∃ (j : Addr) (m : Int) (n : Nat), vs = [.ref j, .int m] ∧ JarAt H j (n + 1000) ∧ (1 ≤ m ∧ m ≤ 100) ∧
  ∀ t l1 l2 l3 l4 d ns H', Fr [j] H H' → JarAt H' j n → New H H' (rawN t l1 l2 l3 l4 d) → RawOk ns d → (1 ≤ ns.length ∧ (ns.length : Int) ≤ m) → Q (.ref t) H'
theorem k__law_small (T : Tx fa fn K mg base) : Fk P w K mg base "_law_small" ["jar", "longest"] 3 (sp__law_small K) s__law_small "_law_small" := by
  refine T.fk 19 35 (q := "_law_small") (st := s__law_small) sc__law_small (fun _ _ _ _ _ _ us hl => match us, hl with | [_, _], _ => rfl) (fun vs H Q E h => ?_) (fun cdv A outer s H vs Q E hr h => ?_)
  · obtain ⟨j, m, n, rfl, _⟩ := h
    rfl
  · obtain ⟨j, m, n, rfl, hj, ⟨h1, h2⟩, k⟩ := h
    refine ⟨_, (pss_cons (ps_set (i := 2) sc__law_small.nd rfl (by first | exact Or.inl rfl | exact Or.inr rfl) (pe_lc (own := [("turn", 7)]) (tt := tYes) (te := (tOp (rI0 fun i j => .int (i - j)) (tCall (sp__law_dip K) [] E0 (tCons (tVar 0) (tCons (tC (.int 6)) tNil))) (tC (.int 1)))) rfl sc__law_small.nd (pi_range1 (by rfl) (T.fr 34) (pa_cons (pe_op op_add pe_int (pe_f (k__law_dip T) hr (pa_cons (pv 0) (pa_cons (pv 1) pa_nil)))) pa_nil)) (blkOk_by (N := ["jar", "longest", "drawn", "lows", "highs", "leasts", "mosts", "turn", "entry"]) (sc := defScope s__law_small) (by decide +kernel)) (fun _ _ _ _ _ => (pg_name (i := 7) sc__law_small.nd rfl (by first | exact Or.inl rfl | exact Or.inr rfl))) (fun _ _ _ _ _ => pts_nil) (fun _ _ _ _ _ => (pe_op op_sub (pe_f (k__law_dip T) hr (pa_cons (pv 0) (pa_cons pe_int pa_nil))) pe_int))))
      (pss_cons (ps_asg (pe_f (k__law_around T) hr (pa_cons (pv 0) (pa_cons (pv 2) (pa_cons (pe_ix ix_list (pe_lst (pa_cons pe_int (pa_cons pe_int (pa_cons pe_int pa_nil)))) (pe_f (k__law_dip T) hr (pa_cons (pv 0) (pa_cons pe_int pa_nil))) (fun _ _ => rfl)) pa_nil)))) (pg_tup rfl (pgs_cons (pg_name (i := 3) sc__law_small.nd rfl (by first | exact Or.inl rfl | exact Or.inr rfl)) (pgs_cons (pg_name (i := 4) sc__law_small.nd rfl (by first | exact Or.inl rfl | exact Or.inr rfl)) (pgs_cons (pg_name (i := 5) sc__law_small.nd rfl (by first | exact Or.inl rfl | exact Or.inr rfl)) (pgs_cons (pg_name (i := 6) sc__law_small.nd rfl (by first | exact Or.inl rfl | exact Or.inr rfl)) pgs_nil))))))
      (pss_cons (ps_if (pt_cmpR op_eq (pe_f (k__law_dip T) hr (pa_cons (pv 0) (pa_cons pe_int pa_nil))) pe_int (nomark _)) (pss_one (ps_par (i := 5) (j := 6) (by rfl) sc__law_small.nd rfl rfl (by decide) rfl rfl (pa_cons (pe_lc (own := [("entry", 8)]) (tt := tYes) (te := (tOp (rI0 fun i j => .int (i - j)) (tCB (rMin K) (tCons (tVar 2) tNil)) (tC (.int 1)))) rfl sc__law_small.nd (pi_list (pv 2)) (blkOk_by (N := ["jar", "longest", "drawn", "lows", "highs", "leasts", "mosts", "turn", "entry"]) (sc := defScope s__law_small) (by decide +kernel)) (fun _ _ _ _ _ => (pg_name (i := 8) sc__law_small.nd rfl (by first | exact Or.inl rfl | exact Or.inr rfl))) (fun _ _ _ _ _ => pts_nil) (fun _ _ _ _ _ => (pe_op op_sub (pe_callB (cr_min rfl) (by rfl) (T.fr 28) (by decide +kernel) (pa_cons (pv 2) pa_nil)) pe_int))) (pa_cons (pe_lc (own := [("entry", 8)]) (tt := tYes) (te := (tOp (rI0 fun i j => .int (i + j)) (tCB (rMax K) (tCons (tVar 2) tNil)) (tC (.int 1)))) rfl sc__law_small.nd (pi_list (pv 2)) (blkOk_by (N := ["jar", "longest", "drawn", "lows", "highs", "leasts", "mosts", "turn", "entry"]) (sc := defScope s__law_small) (by decide +kernel)) (fun _ _ _ _ _ => (pg_name (i := 8) sc__law_small.nd rfl (by first | exact Or.inl rfl | exact Or.inr rfl))) (fun _ _ _ _ _ => pts_nil) (fun _ _ _ _ _ => (pe_op op_add (pe_callB (cr_max rfl) (by rfl) (T.fr 26) (by decide +kernel) (pa_cons (pv 2) pa_nil)) pe_int))) pa_nil)) (by rfl))) pss_nil)
      (pss_one (ps_ret (pe_tup (pa_cons (pv 3) (pa_cons (pv 4) (pa_cons (pv 5) (pa_cons (pv 6) pa_nil)))))))))), ?_⟩
    walk_at "ev0"
    refine ⟨j, m, n + 999, rfl, hj.le (by omega), by omega, by omega, fun v H1 v0 v1 f1 q1 => ?_⟩
    have z1 := (ZJ.start hj).dips f1 q1
    walk_at "ev"
    refine ⟨by omega, by omega, ?_⟩
    refine lc_draw (fun x => -1 ≤ x ∧ x ≤ 4) (n := (1 + v).toNat) (c := 1) (m := n + 890) walk_range (by omega) (z1.le (by omega)) (fun i H' D ns R hi hl z kR => ?_) (fun dr ns H2 hl pp z2 => ?_)
    · walk_at "ev"
      refine ⟨rfl, ?_⟩
      walk_at "ev"
      refine ⟨j, 6, n + 890 + 1 * ((1 + v).toNat - i) - 1, rfl, z.jar.le (by omega), by decide, by decide, fun x G x0 x1 f q => ?_⟩
      walk_at "ev"
      exact kR _ _ ⟨by omega, by omega⟩ ((z.dips f q).le (by omega))
    have hl' : 1 ≤ ns.length ∧ (ns.length : Int) ≤ m := by omega
    walk_at "ev"
    intro t3 k3
    have z3 := z2.alloc (.lst [.int 2, .int 3, .int 4]) k3
    walk_at "ev"
    refine ⟨j, 3, n + 889, rfl, z3.jar.le (by omega), by decide, by decide, fun x H4 x0 x1 f4 q4 => ?_⟩
    have z4 := z3.dips f4 q4
    obtain ⟨wd, ew, hw⟩ := three (a := 2) (b := 3) (c := 4) x0 x1
    walk_at "ev"
    refine r_at ew ?_
    walk_at "ev"
    refine ⟨j, dr, ns, wd, n + 80, rfl, ⟨z4.get (.tail _ (.head _)), z4.ne _ (.tail _ (.head _))⟩, z4.jar.le (by omega), by omega, by omega, (fun x hx => ⟨by have := pp x hx; omega, by have := pp x hx; omega⟩), fun t l1 l2 l3 l4 d H5 f5 q5 w5 r5 _ => ?_⟩
    have z5 := z4.call f5 q5 w5
    simp only [List.map_cons, List.map_nil, List.cons_append, List.nil_append] at z5
    walk_at "ev"
    refine ⟨j, 3, n + 79, rfl, z5.jar.le (by omega), by decide, by decide, fun x H6 x0 x1 f6 q6 => ?_⟩
    have z6 := z5.dips f6 q6
    walk_at "ev"
    refine r_ite (fun _ => ?_) (fun _ => ?_)
    · obtain ⟨mn, mn1, mn2⟩ := min_ex (ns := ns) (by omega)
      obtain ⟨mx, mx1, mx2⟩ := max_ex (ns := ns) (by omega)
      have hdr : SqL K H6 dr (ns.map V.int) := SqL.of (z6.get (.tail _ (.tail _ (.tail _ (.tail _ (.tail _ (.tail _ (.head _))))))))
      walk_at "ev"
      refine lc_const (ns := ns) (mn - 1) hdr (by omega) (fun _ => rfl) (fun x H' R e kR => ?_) (fun D7 H7 hD e hD' => ?_)
      · walk_at "ev"
        refine r_minM (e.sql hdr (fun z => nomatch z)) mn1 mn2 ?_
        walk_at "ev"
        exact kR _ (Fr.refl _)
      have z7 := z6.comp e hD hD'
      have hdr7 := e.sql hdr (fun z => nomatch z)
      clear hD hD' e
      walk_at "ev"
      refine lc_const (ns := ns) (mx + 1) hdr7 (by omega) (fun _ => rfl) (fun x H' R e kR => ?_) (fun D8 H8 hD e hD' => ?_)
      · walk_at "ev"
        refine r_maxM (e.sql hdr7 (fun z => nomatch z)) mx1 mx2 ?_
        walk_at "ev"
        exact kR _ (Fr.refl _)
      have z8 := z7.comp e hD hD'
      clear hD hD' e
      walk_at "ev"
      intro t9 k9
      have z9 := z8.alloc (.tup [.ref l1, .ref l2, .ref D7, .ref D8]) k9
      refine k t9 l1 l2 D7 D8 ⟨d.L, d.U, ns.map fun _ => mn - 1, ns.map fun _ => mx + 1⟩ ns _ z9.fr (z9.jar.le (by omega)) (z9.pick [0, 4, 5, 2, 1] rfl) (r5.with (by simp) (by simp) (fun i hi => ?_) (fun i hi => ?_) (fun i hi => ?_)) hl'
      · rw [nth_const hi]
        have := mn2 _ (nth_mem hi)
        omega
      · rw [nth_const hi]
        have := mx2 _ (nth_mem hi)
        omega
      · rw [nth_const hi, nth_const hi]
        have := pp _ mn1
        have := pp _ mx1
        omega
    · walk_at "ev"
      intro t9 k9
      have z9 := z6.alloc (.tup [.ref l1, .ref l2, .ref l3, .ref l4]) k9
      exact k t9 l1 l2 l3 l4 d ns _ z9.fr (z9.jar.le (by omega)) (z9.pick [0, 2, 3, 4, 5] rfl) r5 hl'
end

set_option Elab.async false
set_option linter.all false
set_option maxRecDepth 100000
set_option maxHeartbeats 4000000
set_option exponentiation.threshold 2000

theorem atN {ns : List Int} {i : Nat} (h : i < ns.length) : atI (ns.map V.int) (i : Int) = some (.int (nth ns i)) := atI_nat (at_nth h)
theorem ixN_at {n i : Nat} (h : i < n) : ixN n (i : Int) = some i := by
  unfold ixN
  rw [if_pos (by omega), if_pos (by omega)]
  rfl
theorem sel_mem {E : List En} : ∀ (is : List Nat) (N : List En), is.map (fun i => E[i]?) = N.map some → ∀ q ∈ N, ∃ i ∈ is, E[i]? = some q
  | [], [], _, q, hq => nomatch hq
  | [], _ :: _, e, _, _ => by cases e
  | _ :: _, [], e, _, _ => by cases e
  | i :: is, p :: N, e, q, hq => by
    rw [List.map_cons, List.map_cons, List.cons.injEq] at e
    rcases List.mem_cons.mp hq with rfl | hq
    · exact ⟨i, List.mem_cons_self, e.1⟩
    · obtain ⟨k, hk, h⟩ := sel_mem is N e.2 q hq
      exact ⟨k, List.mem_cons_of_mem _ hk, h⟩
theorem sel_nd {H0 H : Hp} {j : Addr} {n : Nat} {E : List En} (z : ZJ H0 H j n E) : ∀ (is : List Nat) (N : List En), is.Nodup → is.map (fun i => E[i]?) = N.map some → (N.map (·.2.1)).Nodup
  | [], [], _, _ => List.nodup_nil
  | [], _ :: _, _, e => by cases e
  | _ :: _, [], _, e => by cases e
  | i :: is, p :: N, nd, e => by
    rw [List.map_cons, List.map_cons, List.cons.injEq] at e
    rw [List.nodup_cons] at nd
    rw [List.map_cons, List.nodup_cons]
    refine ⟨fun m => ?_, sel_nd z is N nd.2 e.2⟩
    obtain ⟨q, hq, e1⟩ := List.mem_map.mp m
    obtain ⟨k, hk, h⟩ := sel_mem is N e.2 q hq
    exact z.other e.1 h (fun x => nd.1 (x ▸ hk)) e1
/-- what is known, told anew by places -/
theorem ZJ.sel {H0 H : Hp} {j : Addr} {n : Nat} {E E' : List En} (z : ZJ H0 H j n E) (is : List Nat) (e : is.map (fun i => E[i]?) = E'.map some) (nd : is.Nodup := by decide) : ZJ H0 H j n E' := by
  have m : ∀ q ∈ E', q ∈ E := fun q hq => by
    obtain ⟨i, _, h⟩ := sel_mem is E' e q hq
    exact List.mem_of_getElem? h
  exact ⟨z.jar, sel_nd z is E' nd e, fun q hq => z.at_ q (m q hq), fun q hq => z.ne q (m q hq), fun q hq => z.two q (m q hq), fun q hq => z.fresh q (m q hq), z.fr⟩
theorem four {a b c d : Int} {v : Int} (h0 : 0 ≤ v) (h1 : v < 4) : ∃ x, atI [V.int a, V.int b, V.int c, V.int d] v = some (.int x) ∧ (x = a ∨ x = b ∨ x = c ∨ x = d) := by
  rcases (show v = 0 ∨ v = 1 ∨ v = 2 ∨ v = 3 by omega) with rfl | rfl | rfl | rfl
  · exact ⟨a, rfl, .inl rfl⟩
  · exact ⟨b, rfl, .inr (.inl rfl)⟩
  · exact ⟨c, rfl, .inr (.inr (.inl rfl))⟩
  · exact ⟨d, rfl, .inr (.inr (.inr rfl))⟩
section
variable {P : Program} {w : World} {K : PySem.W.Frag} {mg : Str → Option Value} {base : Heap}
def sp__law_great (K : PySem.W.Frag) : Sp := fun vs H Q _ => ∃ (j : Addr) (m : Int) (n : Nat), vs = [.ref j, .int m] ∧ JarAt H j (n + 2000) ∧ (2 ≤ m ∧ m ≤ 100) ∧
  ∀ t l1 l2 l3 l4 d ns H', Fr [j] H H' → JarAt H' j n → New H H' (rawN t l1 l2 l3 l4 d) → RawOk ns d → (2 ≤ ns.length ∧ (ns.length : Int) ≤ m) → Q (.ref t) H'
theorem k__law_great (T : Tx fa fn K mg base) : Fk P w K mg base "_law_great" ["jar", "longest"] 3 (sp__law_great K) s__law_great "_law_great" := by
  refine T.fk 20 36 (q := "_law_great") (st := s__law_great) sc__law_great (fun _ _ _ _ _ _ us hl => match us, hl with | [_, _], _ => rfl) (fun vs H Q E h => ?_) (fun cdv A outer s H vs Q E hr h => ?_)
  · obtain ⟨j, m, n, rfl, _⟩ := h
    rfl
  · obtain ⟨j, m, n, rfl, hj, ⟨h1, h2⟩, k⟩ := h
    refine ⟨_, (pss_cons (ps_asg (pe_tup (pa_cons (pe_ix ix_list (pe_lst (pa_cons pe_int (pa_cons (pe_op op_powW pe_int pe_int) (pa_cons (pe_op op_powW pe_int pe_int) pa_nil)))) (pe_f (k__law_dip T) hr (pa_cons (pv 0) (pa_cons pe_int pa_nil))) (fun _ _ => rfl)) (pa_cons (pe_lst pa_nil) pa_nil))) (pg_tup rfl (pgs_cons (pg_name (i := 2) sc__law_great.nd rfl (by first | exact Or.inl rfl | exact Or.inr rfl)) (pgs_cons (pg_name (i := 3) sc__law_great.nd rfl (by first | exact Or.inl rfl | exact Or.inr rfl)) pgs_nil))))
      (pss_cons (ps_for PassesOwn.never rfl (pi_range1 (by rfl) (T.fr 34) (pa_cons (pe_op op_add pe_int (pe_f (k__law_dip T) hr (pa_cons (pv 0) (pa_cons (pe_op op_sub (pv 1) pe_int) pa_nil)))) pa_nil)) (pg_name (i := 4) sc__law_great.nd rfl (by first | exact Or.inl rfl | exact Or.inr rfl)) (pss_cons (ps_set (i := 5) sc__law_great.nd rfl (by first | exact Or.inl rfl | exact Or.inr rfl) (pe_lst (pa_cons (pe_f (k__law_dip T) hr (pa_cons (pv 0) (pa_cons (pv 2) pa_nil))) (pa_cons (pe_op op_fdivW (pv 2) pe_int) (pa_cons (pe_op op_sub (pe_f (k__law_dip T) hr (pa_cons (pv 0) (pa_cons pe_int pa_nil))) pe_int) (pa_cons (pe_op op_sub pe_int (pe_f (k__law_dip T) hr (pa_cons (pv 0) (pa_cons (pv 2) pa_nil)))) pa_nil))))))
      (pss_one (ps_expr (pe_bm PySem.F.plainAttrs_list PySem.F.slot_list_append PySem.F.type_list_append mt_append (pv 3) (pa_cons (pe_ix ix_list (pv 5) (pe_f (k__law_dip T) hr (pa_cons (pv 0) (pa_cons pe_int pa_nil))) (fun _ _ => rfl)) pa_nil))))))
      (pss_cons (ps_asg (pe_f (k__law_around T) hr (pa_cons (pv 0) (pa_cons (pv 3) (pa_cons (pe_ix ix_list (pe_lst (pa_cons pe_int (pa_cons (pe_op op_add pe_int (pe_op op_fdivW (pv 2) pe_int)) (pa_cons (pe_op op_mulW pe_int (pv 2)) pa_nil)))) (pe_f (k__law_dip T) hr (pa_cons (pv 0) (pa_cons pe_int pa_nil))) (fun _ _ => rfl)) pa_nil)))) (pg_tup rfl (pgs_cons (pg_name (i := 6) sc__law_great.nd rfl (by first | exact Or.inl rfl | exact Or.inr rfl)) (pgs_cons (pg_name (i := 7) sc__law_great.nd rfl (by first | exact Or.inl rfl | exact Or.inr rfl)) (pgs_cons (pg_name (i := 8) sc__law_great.nd rfl (by first | exact Or.inl rfl | exact Or.inr rfl)) (pgs_cons (pg_name (i := 9) sc__law_great.nd rfl (by first | exact Or.inl rfl | exact Or.inr rfl)) pgs_nil))))))
      (Evl.pss_cut (ps_if (pt_cmpR op_gt (pe_f (k__law_dip T) hr (pa_cons (pv 0) (pa_cons pe_int pa_nil))) pe_int (nomark _)) (pss_one (ps_par (i := 8) (j := 9) (by rfl) sc__law_great.nd rfl rfl (by decide) rfl rfl (pa_cons (pe_lc (own := [("entry", 11)]) (tt := tYes) (te := (tOp (rI0 fun i j => .int (i - j)) (tVar 11) (tOp (rI CMulW fun i j => .int (i * j)) (tC (.int 2)) (tVar 2)))) rfl sc__law_great.nd (pi_list (pv 3)) (blkOk_by (N := ["jar", "longest", "size", "drawn", "turn", "some", "lows", "highs", "leasts", "mosts", "spot", "entry"]) (sc := defScope s__law_great) (by decide +kernel)) (fun _ _ _ _ _ => (pg_name (i := 11) sc__law_great.nd rfl (by first | exact Or.inl rfl | exact Or.inr rfl))) (fun _ _ _ _ _ => pts_nil) (fun _ _ _ _ _ => (pe_op op_sub (pv 11) (pe_op op_mulW pe_int (pv 2))))) (pa_cons (pe_lc (own := [("entry", 11)]) (tt := tYes) (te := (tOp (rI0 fun i j => .int (i + j)) (tVar 11) (tOp (rI CMulW fun i j => .int (i * j)) (tC (.int 2)) (tVar 2)))) rfl sc__law_great.nd (pi_list (pv 3)) (blkOk_by (N := ["jar", "longest", "size", "drawn", "turn", "some", "lows", "highs", "leasts", "mosts", "spot", "entry"]) (sc := defScope s__law_great) (by decide +kernel)) (fun _ _ _ _ _ => (pg_name (i := 11) sc__law_great.nd rfl (by first | exact Or.inl rfl | exact Or.inr rfl))) (fun _ _ _ _ _ => pts_nil) (fun _ _ _ _ _ => (pe_op op_add (pv 11) (pe_op op_mulW pe_int (pv 2))))) pa_nil)) (by rfl))) pss_nil)
      (pss_cons (ps_for PassesOwn.never rfl (pi_range1 (by rfl) (T.fr 34) (pa_cons (pe_op op_sub (pe_callB call_len_seq (by rfl) (T.fr 6) (by decide +kernel) (pa_cons (pv 3) pa_nil)) pe_int) pa_nil)) (pg_name (i := 10) sc__law_great.nd rfl (by first | exact Or.inl rfl | exact Or.inr rfl)) (pss_one (ps_if (pt_cmpR op_eq (pe_f (k__law_dip T) hr (pa_cons (pv 0) (pa_cons pe_int pa_nil))) pe_int (nomark _)) (pss_cons (ps_asg (pe_op op_sub (pe_ix ix_list (pv 6) (pv 10) (fun _ _ => rfl)) (pe_f (k__law_dip T) hr (pa_cons (pv 0) (pa_cons (pe_op op_mulW pe_int (pv 2)) pa_nil)))) (pg_sub (pv 6) (pv 10) set_list))
      (pss_one (ps_asg (pe_op op_add (pe_ix ix_list (pv 7) (pv 10) (fun _ _ => rfl)) (pe_f (k__law_dip T) hr (pa_cons (pv 0) (pa_cons (pe_op op_mulW pe_int (pv 2)) pa_nil)))) (pg_sub (pv 7) (pv 10) set_list)))) pss_nil)))
      (pss_one (ps_ret (pe_tup (pa_cons (pv 6) (pa_cons (pv 7) (pa_cons (pv 8) (pa_cons (pv 9) pa_nil)))))))))))), ?_⟩
    walk_at "ev0"
    intro t1 k1
    have z1 := (ZJ.start hj).alloc (.lst [.int 4, .int (10 ^ Int.toNat 6), .int (10 ^ Int.toNat 25)]) k1
    walk_at "ev"
    refine ⟨j, 3, n + 1999, rfl, z1.jar.le (by omega), by decide, by decide, fun x H2 x0 x1 f q => ?_⟩
    have z2 := z1.dips f q
    obtain ⟨sz, es, hs⟩ := three (a := 4) (b := 10 ^ Int.toNat 6) (c := 10 ^ Int.toNat 25) x0 x1
    have hsz : 4 ≤ sz ∧ sz < 2 ^ 100 := by
      rcases hs with rfl | rfl | rfl
      · decide
      · decide +kernel
      · decide +kernel
    clear hs
    walk_at "ev"
    refine r_at es ?_
    walk_at "ev"
    intro t3 k3
    have z3 := z2.alloc (.lst []) k3
    walk_at "ev"
    intro t4 k4
    have z4 := z3.alloc (.tup [.int sz, .ref t3]) k4
    walk_at "ev"
    refine ⟨j, m - 1, n + 1998, rfl, z4.jar.le (by omega), by omega, by omega, fun v H5 v0 v1 f5 q5 => ?_⟩
    have z5 := (z4.dips f5 q5).sub (E' := [(2, t3, .lst [])]) (.cons _ (.cons₂ _ (List.nil_sublist _)))
    walk_at "ev"
    refine ⟨by omega, by omega, ?_⟩
    refine for_it (walk_range (lo := 0) (n := (2 + v).toNat)) (fun i σ H' => ∃ (ns : List Int) (u1 u2 : Option V), σ = [some (.ref j), some (.int m), some (.int sz), some (.ref t3), u1, u2, none, none, none, none, none, none] ∧
      ZJ H H' j (n + 1500 + 4 * ((2 + v).toNat - i)) [(2, t3, .lst (ns.map V.int))] ∧ ns.length = i ∧ ∀ x ∈ ns, -(2 ^ 110) ≤ x ∧ x ≤ 2 ^ 110) ⟨[], none, none, rfl, z5.le (by omega), rfl, fun _ m => nomatch m⟩ (fun _ _ _ _ _ => trivial) (fun i x σ H' H'' hi p y => ?_) (fun σ H6 p => ?_)
    · obtain ⟨ns, u1, u2, rfl, z, hl, pp⟩ := p
      obtain ⟨rfl, rfl⟩ := y
      walk_at "ev"
      refine ⟨j, sz, n + 1500 + 4 * ((2 + v).toNat - i) - 1, rfl, z.jar.le (by omega), by omega, by omega, fun y1 G1 a1 b1 f1 q1 => ?_⟩
      have w1 := z.dips f1 q1
      walk_at "ev"
      refine r_I (wide_div (b := 4) (by decide) (by decide) (by decide) (by decide)) ?_
      walk_at "ev"
      refine ⟨j, 3, n + 1500 + 4 * ((2 + v).toNat - i) - 2, rfl, w1.jar.le (by omega), by decide, by decide, fun y2 G2 a2 b2 f2 q2 => ?_⟩
      have w2 := w1.dips f2 q2
      walk_at "ev"
      refine ⟨j, sz, n + 1500 + 4 * ((2 + v).toNat - i) - 3, rfl, w2.jar.le (by omega), by omega, by omega, fun y3 G3 a3 b3 f3 q3 => ?_⟩
      have w3 := w2.dips f3 q3
      walk_at "ev"
      intro s1 kk1
      have w4 := w3.alloc (.lst [.int y1, .int (sz / 2), .int (y2 - 1), .int (0 - y3)]) kk1
      walk_at "ev"
      refine ⟨j, 4, n + 1500 + 4 * ((2 + v).toNat - i) - 4, rfl, w4.jar.le (by omega), by decide, by decide, fun y4 G5 a4 b4 f5 q5 => ?_⟩
      have w5 := w4.dips f5 q5
      obtain ⟨it, eit, hit⟩ := four (a := y1) (b := sz / 2) (c := y2 - 1) (d := 0 - y3) a4 b4
      walk_at "ev"
      refine r_at eit ?_
      walk_at "ev"
      have w6 := w5.set 1 (.lst (ns.map V.int ++ [.int it])) rfl
      have big : (2 : Int) ^ 100 ≤ 2 ^ 110 := by decide +kernel
      have hit : -(2 ^ 110) ≤ it ∧ it ≤ 2 ^ 110 := by
        have := Int.ediv_le_self 2 (show 0 ≤ sz by omega)
        have := Int.ediv_nonneg (show 0 ≤ sz by omega) (show (0 : Int) ≤ 2 by decide)
        rcases hit with rfl | rfl | rfl | rfl <;> omega
      refine ⟨ns ++ [it], _, _, rfl, ?_, by rw [List.length_append, hl] <;> rfl, fun y hy => (List.mem_append.mp hy).elim (pp y) fun h => (List.mem_singleton.mp h) ▸ hit⟩
      rw [List.map_append]
      exact (w6.sub (.cons _ (List.Sublist.refl _))).le (by omega)
    obtain ⟨ns, u1, u2, rfl, z6, hl, pp⟩ := p
    have hl' : 2 ≤ ns.length ∧ (ns.length : Int) ≤ m := by omega
    walk_at "ev"
    refine r_I (wide_div (b := 4) (by decide) (by decide) (by decide) (by decide)) ?_
    walk_at "ev"
    refine r_I (wide_mul (a := 4) (b := 100) (by decide) (natAbs_lt (by omega) (by omega)) (by decide) (by decide) (by decide)) ?_
    walk_at "ev"
    intro t7 k7
    have z7 := z6.alloc (.lst [.int 3, .int (1 + sz / 3), .int (2 * sz)]) k7
    walk_at "ev"
    refine ⟨j, 3, n + 1400, rfl, z7.jar.le (by omega), by decide, by decide, fun x H8 x0 x1 f8 q8 => ?_⟩
    have z8 := z7.dips f8 q8
    obtain ⟨wd, ew, hw⟩ := three (a := 3) (b := 1 + sz / 3) (c := 2 * sz) x0 x1
    walk_at "ev"
    refine r_at ew ?_
    walk_at "ev"
    have hwd : 0 < wd ∧ wd < 2 ^ 150 := by
      have : 4 * (2 : Int) ^ 100 < 2 ^ 150 := by decide +kernel
      rcases hw with rfl | rfl | rfl
      · decide
      · omega
      · omega
    refine ⟨j, t3, ns, wd, n + 900, rfl, ⟨z8.get (.tail _ (.head _)), z8.ne _ (.tail _ (.head _))⟩, z8.jar.le (by omega), by omega, hwd, pp, fun t l1 l2 l3 l4 d H9 f9 q9 w9 r9 nw => ?_⟩
    have z9 := z8.call f9 q9 w9
    simp only [List.map_cons, List.map_nil, List.cons_append, List.nil_append] at z9
    walk_at "ev"
    refine Evl.q_cut (M := fun σ' H' => ∃ (A B : List Int) (m3 m4 : Addr) (u1 u2 u3 : Option V), σ' = [some (.ref j), some (.int m), some (.int sz), some (.ref t3), u1, u2, some (.ref l1), some (.ref l2), some (.ref m3), some (.ref m4), none, u3] ∧
      ZJ H H' j (n + 899) [(2, l1, .lst (d.L.map V.int)), (2, l2, .lst (d.U.map V.int)), (2, m3, .lst (A.map V.int)), (2, m4, .lst (B.map V.int)), (2, t3, .lst (ns.map V.int))] ∧ RawOk ns ⟨d.L, d.U, A, B⟩) ?_ ?_
    · walk_at "ev"
      refine ⟨j, 3, n + 899, rfl, z9.jar.le (by omega), by decide, by decide, fun x H10 x0 x1 f10 q10 => ?_⟩
      have z10 := z9.dips f10 q10
      walk_at "ev"
      refine r_ite (fun _ => ?_) (fun _ => ?_)
      · have hdr : SqL K H10 t3 (ns.map V.int) := SqL.of (z10.get (.tail _ (.tail _ (.tail _ (.tail _ (.tail _ (.tail _ (.head _))))))))
        have cm : CMulW 2 sz := wide_mul (a := 4) (b := 100) (by decide) (natAbs_lt (by omega) (by omega)) (by decide) (by decide) (by decide)
        walk_at "ev"
        refine lc_map (ns := ns) (fun y => y - 2 * sz) hdr (by omega) (fun _ => rfl) (fun i H' R hi e kR => ?_) (fun D11 H11 hD e hD' => ?_)
        · walk_at "ev"
          refine r_I cm ?_
          walk_at "ev"
          exact kR _ (Fr.refl _)
        have z11 := z10.comp e hD hD'
        have hdr11 := e.sql hdr (fun z => nomatch z)
        clear hD hD' e
        walk_at "ev"
        refine lc_map (ns := ns) (fun y => y + 2 * sz) hdr11 (by omega) (fun _ => rfl) (fun i H' R hi e kR => ?_) (fun D12 H12 hD e hD' => ?_)
        · walk_at "ev"
          refine r_I cm ?_
          walk_at "ev"
          exact kR _ (Fr.refl _)
        have z12 := z11.comp e hD hD'
        clear hD hD' e
        walk_at "ev"
        have v9 : ∀ i, i < ns.length → nth (ns.map fun y => y + 2 * sz) i - nth (ns.map fun y => y - 2 * sz) i ≤ 2 ^ 160 := fun i hi => by
          have : (2 : Int) ^ 100 * 4 ≤ 2 ^ 160 := by decide +kernel
          rw [nth_map (g := fun y => y + 2 * sz) hi, nth_map (g := fun y => y - 2 * sz) hi]
          omega
        exact ⟨ns.map fun y => y - 2 * sz, ns.map fun y => y + 2 * sz, D11, D12, _, _, _, rfl, z12.sel [3, 4, 1, 0, 8] rfl, r9.with (by simp) (by simp) (fun i hi => by rw [nth_map hi]; omega) (fun i hi => by rw [nth_map hi]; omega) v9⟩
      · walk_at "ev"
        exact ⟨d.A, d.B, l3, l4, _, _, _, rfl, z10.sel [1, 2, 3, 4, 6] rfl, r9⟩
    · rintro σ' H10 ⟨A, B, m3, m4, u1, u2, u3, rfl, z10, r10⟩
      have hlen : (ns.map V.int).length = ns.length := List.length_map _
      walk_at "ev"
      refine ⟨by omega, by omega, ?_⟩
      refine for_it (walk_range (lo := 0) (n := (((ns.map V.int).length : Int) - 1).toNat)) (fun i σ H' => ∃ (L U : List Int) (u4 : Option V), σ = [some (.ref j), some (.int m), some (.int sz), some (.ref t3), u1, u2, some (.ref l1), some (.ref l2), some (.ref m3), some (.ref m4), u4, u3] ∧
        ZJ H H' j (n + 3 * (ns.length - i)) [(2, l1, .lst (L.map V.int)), (2, l2, .lst (U.map V.int)), (2, m3, .lst (A.map V.int)), (2, m4, .lst (B.map V.int)), (2, t3, .lst (ns.map V.int))] ∧ RawOk ns ⟨L, U, A, B⟩ ∧ ∀ k, i ≤ k → k < ns.length → nth U k - nth L k ≤ 2 * wd) ⟨d.L, d.U, none, rfl, z10.le (by omega), r10, fun k _ => nw k⟩ (fun _ _ _ _ _ => trivial) (fun i x σ H' H'' hi p y => ?_) (fun σ H6 p => ?_)
      · obtain ⟨L, U, u4, rfl, z, r, nr⟩ := p
        obtain ⟨rfl, rfl⟩ := y
        have hi2 : i + 1 < ns.length := by omega
        have lL := r.lL
        have lU := r.lU
        dsimp only at lL lU
        have e0 : (0 : Int) + (i : Int) = (i : Int) := Int.zero_add _
        simp only [e0]
        have cm : CMulW 9 sz := wide_mul (a := 4) (b := 100) (by decide) (natAbs_lt (by omega) (by omega)) (by decide) (by decide) (by decide)
        walk_at "ev"
        refine ⟨j, 3, n + 3 * (ns.length - i) - 1, rfl, z.jar.le (by omega), by decide, by decide, fun y1 G1 a1 b1 f1 q1 => ?_⟩
        have w1 := z.dips f1 q1
        walk_at "ev"
        refine r_ite (fun _ => ?_) (fun _ => ?_)
        · walk_at "ev"
          refine r_at (atN (by omega)) ?_
          walk_at "ev"
          refine r_I cm ?_
          walk_at "ev"
          refine ⟨j, 9 * sz, n + 3 * (ns.length - i) - 2, rfl, w1.jar.le (by omega), by omega, by omega, fun y2 G2 a2 b2 f2 q2 => ?_⟩
          have w2 := w1.dips f2 q2
          walk_at "ev"
          refine r_ixn (ixN_at (by rw [List.length_map]; omega)) ?_
          have w3 := w2.set 0 (.lst ((L.map V.int).set i (.int (nth L i - y2)))) rfl
          walk_at "ev"
          refine r_at (atN (by omega)) ?_
          walk_at "ev"
          refine r_I cm ?_
          walk_at "ev"
          refine ⟨j, 9 * sz, n + 3 * (ns.length - i) - 3, rfl, w3.jar.le (by omega), by omega, by omega, fun y3 G3 a3 b3 f3 q3 => ?_⟩
          have w4 := w3.dips f3 q3
          walk_at "ev"
          refine r_ixn (ixN_at (by rw [List.length_map]; omega)) ?_
          have w5 := w4.set 1 (.lst ((U.map V.int).set i (.int (nth U i + y3)))) rfl
          refine ⟨L.set i (nth L i - y2), U.set i (nth U i + y3), _, rfl, ?_, ?_, fun k h1 h2 => (by rw [nth_set_ne (by omega), nth_set_ne (by omega)]; exact nr k (by omega) h2)⟩
          · rw [List.map_set, List.map_set]
            exact w5.le (by omega)
          · refine ⟨by simp [lL], by simp [lU], r.lA, r.lB, fun k hk => ?_, fun k hk => ?_, r.a, r.b, ?_, ?_, fun k hk => ?_, r.v, r.e⟩
            · have h := r.l k hk
              dsimp only at h ⊢
              by_cases e : k = i
              · subst e
                rw [nth_set_at (by omega)]
                omega
              · rw [nth_set_ne e]
                exact h
            · have h := r.u k hk
              dsimp only at h ⊢
              by_cases e : k = i
              · subst e
                rw [nth_set_at (by omega)]
                omega
              · rw [nth_set_ne e]
                exact h
            · have h := r.tL
              dsimp only at h ⊢
              rw [nth_set_ne (by omega)]
              exact h
            · have h := r.tU
              dsimp only at h ⊢
              rw [nth_set_ne (by omega)]
              exact h
            · have h := r.w k hk
              dsimp only at h ⊢
              by_cases e : k = i
              · subst e
                rw [nth_set_at (by omega), nth_set_at (by omega)]
                have := nr k (Nat.le_refl _) hk
                have : (2 : Int) ^ 100 * 100 + 2 * 2 ^ 150 ≤ 2 ^ 160 := by decide +kernel
                omega
              · rw [nth_set_ne e, nth_set_ne e]
                exact h
        · walk_at "ev"
          exact ⟨L, U, _, rfl, w1.le (by omega), r, fun k h1 h2 => nr k (by omega) h2⟩
      · obtain ⟨L, U, u4, rfl, z, r, nr⟩ := p
        walk_at "ev"
        intro t9 k9
        have z9 := z.alloc (.tup [.ref l1, .ref l2, .ref m3, .ref m4]) k9
        exact k t9 l1 l2 m3 m4 ⟨L, U, A, B⟩ ns _ z9.fr (z9.jar.le (by omega)) (z9.pick [0, 1, 2, 3, 4] rfl) r hl'
end

set_option Elab.async false
set_option linter.all false
set_option maxRecDepth 100000
set_option maxHeartbeats 4000000
set_option exponentiation.threshold 2000

/-- bounds lie at r as a tuple (b) or a list of four lists, apart from what J names -/
structure RawAt (J : List Addr) (H : Hp) (b : Bool) (r : Addr) (d : PD) : Prop where
  ex : ∃ l1 l2 l3 l4, (if b = true then H r = some (.tup [.ref l1, .ref l2, .ref l3, .ref l4]) else H r = some (.lst [.ref l1, .ref l2, .ref l3, .ref l4])) ∧
    (H l1 = some (.lst (d.L.map V.int)) ∧ H l2 = some (.lst (d.U.map V.int)) ∧ H l3 = some (.lst (d.A.map V.int)) ∧ H l4 = some (.lst (d.B.map V.int))) ∧ (r ∉ J ∧ l1 ∉ J ∧ l2 ∉ J ∧ l3 ∉ J ∧ l4 ∉ J)
theorem RawAt.mono {J : List Addr} {H H' : Hp} {b : Bool} {r : Addr} {d : PD} (h : RawAt J H b r d) (f : Fr J H H') : RawAt J H' b r d := by
  obtain ⟨l1, l2, l3, l4, h0, ⟨h1, h2, h3, h4⟩, n0, n1, n2, n3, n4⟩ := h.ex
  refine ⟨l1, l2, l3, l4, ?_, ⟨f _ _ n1 h1, f _ _ n2 h2, f _ _ n3 h3, f _ _ n4 h4⟩, n0, n1, n2, n3, n4⟩
  cases b with
  | true => exact f _ _ n0 h0
  | false => exact f _ _ n0 h0
theorem RawAt.nil {J : List Addr} {H : Hp} {b : Bool} {r : Addr} {d : PD} (h : RawAt J H b r d) : RawAt [] H b r d := by
  obtain ⟨l1, l2, l3, l4, h0, h1, _⟩ := h.ex
  exact ⟨l1, l2, l3, l4, h0, h1, (fun z => nomatch z), (fun z => nomatch z), (fun z => nomatch z), (fun z => nomatch z), fun z => nomatch z⟩
theorem New.raw {H H' : Hp} {t l1 l2 l3 l4 : Addr} {d : PD} (n : New H H' (rawN t l1 l2 l3 l4 d)) {J : List Addr} (hJ : ∀ j ∈ J, ∃ o, H j = some o) : RawAt J H' true t d := by
  have no : ∀ q ∈ rawN t l1 l2 l3 l4 d, q.1 ∉ J := fun q hq m => by
    obtain ⟨o, e⟩ := hJ _ m
    rw [n.2 q hq] at e
    cases e
  exact ⟨l1, l2, l3, l4, n.1.2 _ (.head _), ⟨n.1.2 _ (.tail _ (.head _)), n.1.2 _ (.tail _ (.tail _ (.head _))), n.1.2 _ (.tail _ (.tail _ (.tail _ (.head _)))), n.1.2 _ (.tail _ (.tail _ (.tail _ (.tail _ (.head _)))))⟩,
    no _ (.head _), no _ (.tail _ (.head _)), no _ (.tail _ (.tail _ (.head _))), no _ (.tail _ (.tail _ (.tail _ (.head _)))), no _ (.tail _ (.tail _ (.tail _ (.tail _ (.head _)))))⟩
section
variable {P : Program} {w : World} {K : PySem.W.Frag} {mg : Str → Option Value} {base : Heap}
def sp__law_heap (K : PySem.W.Frag) : Sp := fun vs H Q _ => ∃ (r : Addr) (b : Bool) (d : PD), vs = [.ref r] ∧ RawAt [] H b r d ∧ d.Ok ∧ ∀ p H', Fr [] H H' → NewP K H H' p d → Q (.ref p) H'
theorem k__law_heap (T : Tx fa fn K mg base) : Fk P w K mg base "_law_heap" ["raw"] 5 (sp__law_heap K) s__law_heap "_law_heap" := by
  refine T.fk 21 37 (q := "_law_heap") (st := s__law_heap) sc__law_heap (fun _ _ _ _ _ _ us hl => match us, hl with | [_], _ => rfl) (fun vs H Q E h => ?_) (fun cdv A outer s H vs Q E hr h => ?_)
  · obtain ⟨r, b, d, rfl, _⟩ := h
    rfl
  · obtain ⟨r, b, d, rfl, ra, ok, k⟩ := h
    obtain ⟨l1, l2, l3, l4, h0, ⟨h1, h2, h3, h4⟩, _⟩ := ra.ex
    refine ⟨_, (pss_one (ps_ret (pe_mk (k_Plan___init__ T) (T.glo 21) hr (pa_cons (pe_ix ix_seq (pv 0) pe_int (fun _ _ => rfl)) (pa_cons (pe_ix ix_seq (pv 0) pe_int (fun _ _ => rfl)) (pa_cons (pe_ix ix_seq (pv 0) pe_int (fun _ _ => rfl)) (pa_cons (pe_ix ix_seq (pv 0) pe_int (fun _ _ => rfl)) pa_nil))))))), ?_⟩
    cases b with
    | true =>
      have h0 : H r = some (.tup [.ref l1, .ref l2, .ref l3, .ref l4]) := h0
      walk_at "ev0"
      exact r_plan ok h1 h2 h3 h4 k
    | false =>
      have h0 : H r = some (.lst [.ref l1, .ref l2, .ref l3, .ref l4]) := h0
      walk_at "ev0"
      exact r_plan ok h1 h2 h3 h4 k
end

set_option Elab.async false
set_option linter.all false
set_option maxRecDepth 100000
set_option maxHeartbeats 4000000
set_option exponentiation.threshold 2000

/-- new bounds at r -/
def NewR (H H' : Hp) (b : Bool) (r : Addr) (d : PD) : Prop := ∀ J, (∀ j ∈ J, ∃ o, H j = some o) → RawAt J H' b r d
theorem rev_range (ns : List Int) : (List.range (ns.length - 1)).map (fun i => nth ns (ns.length - 2 - i)) = ns.dropLast.reverse := by
  refine List.ext_getElem (by simp) fun i h1 h2 => ?_
  have hi : i < ns.length - 1 := by simpa using h1
  rw [List.getElem_map, List.getElem_range, List.getElem_reverse, List.getElem_dropLast, getElem_nth]
  congr 1
  rw [List.length_dropLast]
  omega
theorem cut_end {ns : List Int} (h : 0 < ns.length) : cutV (ns.map V.int) (some (-1)) none = [.int (nth ns (ns.length - 1))] := by
  unfold cutV
  rw [show HT.sIx (ns.map V.int).length 0 (some (-1)) = ((-1 : Int) + ((ns.map V.int).length : Int)).toNat from rfl, HT.sIx_none, List.length_map, show ((-1 : Int) + (ns.length : Int)).toNat = ns.length - 1 by omega, show ns.length - (ns.length - 1) = 1 by omega]
  rw [List.drop_eq_getElem_cons (by rw [List.length_map]; omega), List.take_succ_cons, List.take_zero, List.getElem_map, getElem_nth]
theorem Z.away {H0 H : Hp} {E : List En} (z : Z H0 H E) {J : List Addr} {a : Addr} {o : HO} (m : (2, a, o) ∈ E) (hJ : ∀ j ∈ J, ∃ o, H0 j = some o) : a ∉ J := fun mj => by
  obtain ⟨o', e⟩ := hJ a mj
  rw [z.fresh (2, a, o) m rfl] at e
  cases e

set_option Elab.async false
set_option linter.all false
set_option maxRecDepth 100000
set_option maxHeartbeats 4000000
set_option exponentiation.threshold 2000
theorem nin {α : Type} {a : α} : a ∉ ([] : List α) := fun m => nomatch m
theorem Fr.drop {H H1 H2 : Hp} {p : Addr} (a : Fr [] H H1) (b : Fr [p] H1 H2) (h : H p = none) : Fr [] H H2 := fun x o hx e => b x o (fun m => by
  rw [List.mem_singleton.mp m, h] at e
  cases e) (a x o hx e)
/-- lists of lists of integers that lie -/
inductive LLAt (H : Hp) : List V → List (List Int) → Prop where
  | nil : LLAt H [] []
  | cons {a : Addr} {ns : List Int} {vs : List V} {r : List (List Int)} (h : H a = some (.lst (ns.map V.int))) (t : LLAt H vs r) : LLAt H (.ref a :: vs) (ns :: r)
abbrev llD (xs : List (List Int)) : PyData := .list (xs.map fun ns => .list (ns.map PyData.int))
theorem LLAt.dp {K : PySem.W.Frag} {H : Hp} {vs : List V} {r : List (List Int)} (h : LLAt H vs r) : DpAll K H vs (r.map fun ns => .list (ns.map PyData.int)) := by
  induction h with
  | nil => exact .nil
  | cons h _ ih => exact .cons (.lst (SqL.of h) (dpAll_ints _)) ih
theorem canLay_ll : ∀ r : List (List Int), PyData.canLayAll0 (r.map fun ns => .list (ns.map PyData.int)) = true
  | [] => rfl
  | n :: r => by
    rw [List.map_cons, PyData.canLayAll0, canLay_ll r, PyData.canLay0, canLay_ints]
    rfl
theorem r_eqLL {K : PySem.W.Frag} {H : Hp} {Q : VK} {a b : Addr} {vs us : List V} {xs ys : List (List Int)} (ha : H a = some (.lst vs)) (hb : H b = some (.lst us)) (hx : LLAt H vs xs) (hy : LLAt H us ys) (sx : SeqAt.shaped (llD xs) = true) (sy : SeqAt.shaped (llD ys) = true)
    (q : Q (.bl ((llD xs).eqv (llD ys))) H) : rEqD K (.ref a) (.ref b) H Q :=
  ⟨llD xs, llD ys, .lst (SqL.of ha) hx.dp, .lst (SqL.of hb) hy.dp, sx, sy, q⟩
section
variable {P : Program} {w : World} {K : PySem.W.Frag} {mg : Str → Option Value} {base : Heap}
theorem r_planA {H : Hp} {Q : Addr → Hp → Prop} {a1 a2 a3 a4 : Addr} {d : PD} (ok : d.Ok) (h1 : H a1 = some (.lst (d.L.map V.int))) (h2 : H a2 = some (.lst (d.U.map V.int))) (h3 : H a3 = some (.lst (d.A.map V.int))) (h4 : H a4 = some (.lst (d.B.map V.int)))
    (k : ∀ p H', Fr [] H H' → NewP K H H' p d → Q p H') : ∀ x dx, H x = none → H dx = none → dx ≠ x →
      sp_Plan___init__ K (.ref x :: ([.ref a1, .ref a2, .ref a3, .ref a4] ++ [])) (upd (upd H dx (.own x)) x (.ins (CP K) dx [])) (fun v H2 => v = .non ∧ Q x H2) E0 := by
  intro x dx hx hdx hne
  have h := r_plan (Q := fun v H2 => ∃ y, v = .ref y ∧ Q y H2) ok h1 h2 h3 h4 (fun p H' f n => ⟨p, rfl, k p H' f n⟩) x dx hx hdx hne
  have e : (fun (v : V) (H2 : Hp) => v = .non ∧ ∃ y, V.ref x = .ref y ∧ Q y H2) = fun v H2 => v = .non ∧ Q x H2 := by
    funext v H2
    simp
  exact e ▸ h
end
theorem atI_n0 {ns : List Int} {i : Nat} (h : i < ns.length) : atI (ns.map V.int) (0 + (i : Int)) = some (.int (nth ns i)) := by
  rw [Int.zero_add, atI_nth (by omega) (by omega)]
  rfl
theorem range_mapI (ns : List Int) (g : Int → Int) : ((List.range ns.length).map fun i => g (nth ns i)) = ns.map g := by
  rw [show (fun i => g (nth ns i)) = g ∘ nth ns from rfl, ← List.map_map, range_nth]
/-- new lists of integers, listed -/
theorem lc_lists {J : It} {n : Nat} {GG : Hp → Prop} {Y : Nat → Hp → V → Hp → Prop} {g : TG} {te : TE} {vs : List Nat} {σ : L2.St} {H1 : Hp} {Q : VK} (w : Walk J n GG Y) (f : Nat → List Int) (hn : n ≤ 1000) (hG : ∀ H', Fr [] H1 H' → GG H') (hY : ∀ i H' x H'', Y i H' x H'' → H'' = H')
    (he : ∀ i x H' (R : VK), i < n → Fr [] H1 H' → Y i H' x H' → (∀ p H4, Fr [] H' H4 → H' p = none → H4 p = some (.lst ((f i).map V.int)) → R (.ref p) H4) → g x (wipe σ vs) H' fun σ2 H2 => wipe σ2 vs = wipe σ vs ∧ te σ2 H2 R)
    (hd : ∀ (D : Addr) (M : List (Addr × List Int)) H', M.map Prod.snd = ((List.range n).map f).reverse → Z H1 H' ((2, D, .lst (M.reverse.map fun q => .ref q.1)) :: M.map fun q => ((2, q.1, .lst (q.2.map V.int)) : En)) → Q (.ref D) H') : LcJ g tYes te vs σ Q J H1 := by
  intro D hD
  refine lc_it w (fun i H' => i ≤ n ∧ ∃ M : List (Addr × List Int), M.map Prod.snd = ((List.range i).map f).reverse ∧ Z H1 H' ((2, D, .lst (M.reverse.map fun q => .ref q.1)) :: M.map fun q => ((2, q.1, .lst (q.2.map V.int)) : En)))
    ⟨Nat.zero_le _, [], rfl, (Z.start0 H1).alloc _ hD⟩ (fun i H' _ ⟨_, M, _, z⟩ => hG H' (z.fr0 ?_)) (fun i x H' H'' hi ⟨_, M, e, z⟩ y => ?_) (fun H' ⟨_, M, e, z⟩ => hd D M H' e z)
  · intro q hq
    rcases List.mem_cons.mp hq with rfl | hq
    · exact (by decide : (2 : Nat) ≠ 1)
    · obtain ⟨r, _, rfl⟩ := List.mem_map.mp hq
      exact (by decide : (2 : Nat) ≠ 1)
  obtain rfl := hY i H' x H'' y
  refine he i x H'' _ hi (z.fr0 ?_) y fun p H4 f4 hp h4 => ⟨M.reverse.map fun q => .ref q.1, f4 _ _ (fun m => nomatch m) (z.get (.head _)), ?_, hi, (p, f i) :: M, ?_, ?_⟩
  · intro q hq
    rcases List.mem_cons.mp hq with rfl | hq
    · exact (by decide : (2 : Nat) ≠ 1)
    · obtain ⟨r, _, rfl⟩ := List.mem_map.mp hq
      exact (by decide : (2 : Nat) ≠ 1)
  · have l := congrArg List.length e
    simp only [List.length_map, List.length_reverse, List.length_range] at l
    rw [List.length_map, List.length_reverse, l]
    exact Nat.lt_of_lt_of_le (show i < 1001 by omega) (by decide)
  · rw [List.map_cons, e, List.range_succ, List.map_append, List.reverse_append]
    rfl
  · have z2 := (z.comp f4 hp h4).set 1 (.lst ((M.reverse.map fun q => V.ref q.1) ++ [.ref p])) rfl (.inr rfl)
    refine Z.perm (E' := (2, D, .lst (((p, f i) :: M).reverse.map fun q => V.ref q.1)) :: (2, p, .lst ((f i).map V.int)) :: M.map fun q => ((2, q.1, .lst (q.2.map V.int)) : En)) z2 ?_
    rw [List.reverse_cons, List.map_append]
    exact List.Perm.swap ..
def catA {α : Type} (us ws : List α) : List α := us ++ ws
theorem kr_by {vs : List V} {us : List Value} {zs : List V} {ws : List Value} (h1 : Vals vs us) (h2 : Vals zs ws) (_ : zs.length = ["by"].length) (_ : vs.length = 1) : Vals (catA vs zs) (catA us ws) := h1.append h2

set_option Elab.async false
set_option linter.all false
set_option maxRecDepth 100000
set_option maxHeartbeats 4000000
set_option exponentiation.threshold 2000

/-! ## slices -/
def seg (ns : List Int) (i j : Nat) : List Int := (ns.drop i).take (j - i)
theorem cut_seg {ns : List Int} {i j : Int} (h0 : 0 ≤ i) (h1 : i ≤ ns.length) (h2 : 0 ≤ j) (h3 : j ≤ ns.length) : cutV (ns.map V.int) (some i) (some j) = (seg ns i.toNat j.toNat).map V.int := by
  obtain ⟨a, rfl⟩ := Int.eq_ofNat_of_zero_le h0
  obtain ⟨b, rfl⟩ := Int.eq_ofNat_of_zero_le h2
  unfold cutV seg
  rw [HT.sIx_nat, HT.sIx_nat, List.length_map, Nat.min_eq_left (by omega), Nat.min_eq_left (by omega), List.map_take, List.map_drop]
  rfl
theorem cut_segN {ns : List Int} {i j : Nat} (h1 : i ≤ ns.length) (h3 : j ≤ ns.length) : cutV (ns.map V.int) (some (i : Int)) (some (j : Int)) = (seg ns i j).map V.int := cut_seg (by omega) (by omega) (by omega) (by omega)
theorem cut_seg1 {ns : List Int} {i j : Nat} (h1 : i + 1 ≤ ns.length) (h3 : j ≤ ns.length) : cutV (ns.map V.int) (some ((i : Int) + 1)) (some (j : Int)) = (seg ns (i + 1) j).map V.int := cut_segN (i := i + 1) h1 h3
theorem cut_from {ns : List Int} {i : Int} (h0 : 0 ≤ i) (h1 : i ≤ ns.length) : cutV (ns.map V.int) (some i) none = (ns.drop i.toNat).map V.int := by
  obtain ⟨a, rfl⟩ := Int.eq_ofNat_of_zero_le h0
  unfold cutV
  rw [HT.sIx_nat, HT.sIx_none, List.length_map, Nat.min_eq_left (by omega), List.map_drop, List.take_of_length_le (by rw [List.length_drop, List.length_map]; exact Nat.le_refl _)]
  rfl
theorem cut_upto {ns : List Int} {i : Int} (h0 : 0 ≤ i) (h1 : i ≤ ns.length) : cutV (ns.map V.int) none (some i) = (ns.take i.toNat).map V.int := by
  obtain ⟨a, rfl⟩ := Int.eq_ofNat_of_zero_le h0
  unfold cutV
  rw [HT.sIx_nat, HT.sIx_none, List.length_map, Nat.min_eq_left (by omega), List.map_take]
  rfl
theorem cut_uptoN {ns : List Int} {i : Nat} (h1 : i ≤ ns.length) : cutV (ns.map V.int) none (some (i : Int)) = (ns.take i).map V.int := cut_upto (by omega) (by omega)
theorem cut_fromN {ns : List Int} {i : Nat} (h1 : i ≤ ns.length) : cutV (ns.map V.int) (some (i : Int)) none = (ns.drop i).map V.int := cut_from (by omega) (by omega)
theorem atN1 {ns : List Int} {t : Nat} (h1 : 1 ≤ t) (h2 : t - 1 < ns.length) : atI (ns.map V.int) ((t : Int) - 1) = some (.int (nth ns (t - 1))) := by
  rw [show (t : Int) - 1 = ((t - 1 : Nat) : Int) by omega]
  exact atN h2
theorem ixN_m1 {n t : Nat} (h1 : 1 ≤ t) (h2 : t - 1 < n) : ixN n ((t : Int) - 1) = some (t - 1) := by
  rw [show (t : Int) - 1 = ((t - 1 : Nat) : Int) by omega]
  exact ixN_at h2
theorem seg_len {ns : List Int} {i j : Nat} (h : j ≤ ns.length) (h1 : i ≤ j) : (seg ns i j).length = j - i := by
  unfold seg
  rw [List.length_take, List.length_drop]
  omega
theorem seg_nth {ns : List Int} {i j k : Nat} (h : j ≤ ns.length) (h1 : i + k < j) : nth (seg ns i j) k = nth ns (i + k) := by
  unfold seg nth
  rw [List.getD_eq_getElem?_getD, List.getD_eq_getElem?_getD, List.getElem?_take_of_lt (by omega), List.getElem?_drop]
theorem app_l {ns ms : List Int} {i : Nat} (h : i < ns.length) : nth (ns ++ ms) i = nth ns i := by
  unfold nth
  rw [List.getD_eq_getElem?_getD, List.getD_eq_getElem?_getD, List.getElem?_append_left h]
theorem app_r {ns ms : List Int} {i : Nat} (h : ns.length ≤ i) : nth (ns ++ ms) i = nth ms (i - ns.length) := by
  unfold nth
  rw [List.getD_eq_getElem?_getD, List.getD_eq_getElem?_getD, List.getElem?_append_right h]
theorem ext_nth {ns ms : List Int} (hl : ns.length = ms.length) (h : ∀ i, i < ns.length → nth ns i = nth ms i) : ns = ms := by
  rw [← range_nth ns, ← range_nth ms, hl]
  refine List.map_congr_left fun i hi => h i ?_
  have := List.mem_range.mp hi
  omega
def PD.tot (d : PD) : Int := nth d.L (d.L.length - 1)
/-! ## joined -/
def PD.joined (d e : PD) : PD := ⟨d.L ++ e.L.map fun x => d.tot + x, d.U ++ e.U.map fun x => d.tot + x, d.A ++ e.A, d.B ++ e.B⟩
theorem PD.Ok.joined {d e : PD} (ok : d.Ok) (ok' : e.Ok) (h : d.L.length + e.L.length ≤ 200) : (d.joined e).Ok := by
  have h1 := ok.one
  have lU := ok.lU
  have lA := ok.lA
  have lB := ok.lB
  have h1' := ok'.one
  have lU' := ok'.lU
  have lA' := ok'.lA
  have lB' := ok'.lB
  refine ⟨?_, ?_, ?_, ?_, ?_, fun i hi => ?_, fun i hi => ?_, ?_⟩ <;> dsimp only [PD.joined] at * <;> simp only [List.length_append, List.length_map] at *
  · omega
  · omega
  · omega
  · omega
  · omega
  · by_cases c : i < d.L.length
    · rw [app_l c, app_l (by omega)]
      exact ok.lu i c
    · rw [app_r (by omega), app_r (by omega), nth_map (g := fun x => d.tot + x) (by omega), nth_map (g := fun x => d.tot + x) (by omega), lU]
      have := ok'.lu (i - d.L.length) (by omega)
      omega
  · by_cases c : i < d.L.length
    · rw [app_l (by omega), app_l (by omega)]
      exact ok.ab i c
    · rw [app_r (by omega), app_r (by omega), lA, lB]
      exact ok'.ab (i - d.L.length) (by omega)
  · rw [app_r (by omega), app_r (by omega), nth_map (g := fun x => d.tot + x) (by omega), nth_map (g := fun x => d.tot + x) (by omega), lU, show d.L.length + e.L.length - 1 - d.L.length = e.L.length - 1 by omega, ok'.tot]
/-! ## part -/
def PD.part (d : PD) (f l : Nat) (b e : Int) : PD := ⟨((seg (0 :: d.L) (f + 1) l).map fun x => x - b) ++ [e - b], ((seg (0 :: d.U) (f + 1) l).map fun x => x - b) ++ [e - b], seg d.A f l, seg d.B f l⟩
theorem cons_nth {x : Int} {ns : List Int} {i : Nat} : nth (x :: ns) (i + 1) = nth ns i := rfl
theorem PD.Ok.part {d : PD} (ok : d.Ok) {f l : Nat} (b e : Int) (h1 : f < l) (h2 : l ≤ d.L.length) : (d.part f l b e).Ok := by
  have lU := ok.lU
  have lA := ok.lA
  have lB := ok.lB
  have most := ok.most
  have n1 : (seg (0 :: d.L) (f + 1) l).length = l - (f + 1) := seg_len (by rw [List.length_cons]; omega) (by omega)
  have n2 : (seg (0 :: d.U) (f + 1) l).length = l - (f + 1) := seg_len (by rw [List.length_cons]; omega) (by omega)
  have n3 : (seg d.A f l).length = l - f := seg_len (by omega) (by omega)
  have n4 : (seg d.B f l).length = l - f := seg_len (by omega) (by omega)
  have hL : (((seg (0 :: d.L) (f + 1) l).map fun x => x - b) ++ [e - b]).length = l - f := by
    rw [List.length_append, List.length_map, n1]
    show l - (f + 1) + 1 = l - f
    omega
  have hU : (((seg (0 :: d.U) (f + 1) l).map fun x => x - b) ++ [e - b]).length = l - f := by
    rw [List.length_append, List.length_map, n2]
    show l - (f + 1) + 1 = l - f
    omega
  refine ⟨hL ▸ (by omega), hL ▸ (by omega), hU.trans hL.symm, n3.trans hL.symm, n4.trans hL.symm, fun i hi => ?_, fun i hi => ?_, ?_⟩ <;> dsimp only [PD.part] at * <;> rw [hL] at *
  · by_cases c : i < l - (f + 1)
    · rw [app_l (by rw [List.length_map]; omega), app_l (by rw [List.length_map]; omega), nth_map (g := fun x => x - b) (by omega), nth_map (g := fun x => x - b) (by omega), seg_nth (by rw [List.length_cons]; omega) (by omega), seg_nth (by rw [List.length_cons]; omega) (by omega),
        show f + 1 + i = f + i + 1 by omega, cons_nth, cons_nth]
      have := ok.lu (f + i) (by omega)
      omega
    · rw [app_r (by rw [List.length_map]; omega), app_r (by rw [List.length_map]; omega), List.length_map, List.length_map, n1, n2]
      exact Int.le_refl _
  · rw [seg_nth (by omega) (by omega), seg_nth (by omega) (by omega)]
    exact ok.ab (f + i) (by omega)
  · rw [app_r (by rw [List.length_map]; omega), app_r (by rw [List.length_map]; omega), List.length_map, List.length_map, n1, n2]
/-! ## loosened -/
def PD.looseL (d : PD) (t : Nat) : PD := ⟨d.L.set (t - 1) (min (min (nth d.L (t - 1)) (d.A.take t).sum) (d.tot - (d.B.drop t).sum)), d.U, d.A, d.B⟩
def PD.looseU (d : PD) (t : Nat) : PD := ⟨d.L, d.U.set (t - 1) (max (max (nth d.U (t - 1)) (d.B.take t).sum) (d.tot - (d.A.drop t).sum)), d.A, d.B⟩
theorem PD.Ok.looseL {d : PD} (ok : d.Ok) {t : Nat} (h1 : 1 ≤ t) (h2 : t < d.L.length) : (d.looseL t).Ok := by
  have lU := ok.lU
  refine ⟨?_, ?_, ?_, ?_, ?_, fun i hi => ?_, fun i hi => ?_, ?_⟩ <;> dsimp only [PD.looseL] at * <;> (try rw [List.length_set] at hi) <;> (try rw [List.length_set])
  · exact ok.one
  · exact ok.most
  · exact ok.lU
  · exact ok.lA
  · exact ok.lB
  · have := ok.lu i hi
    by_cases c : i = t - 1
    · subst c
      rw [nth_set_at hi]
      omega
    · rw [nth_set_ne c]
      exact this
  · exact ok.ab i hi
  · rw [nth_set_ne (by omega)]
    exact ok.tot
theorem PD.Ok.looseU {d : PD} (ok : d.Ok) {t : Nat} (h1 : 1 ≤ t) (h2 : t < d.L.length) : (d.looseU t).Ok := by
  have lU := ok.lU
  refine ⟨?_, ?_, ?_, ?_, ?_, fun i hi => ?_, fun i hi => ?_, ?_⟩ <;> dsimp only [PD.looseU] at *
  · exact ok.one
  · exact ok.most
  · rw [List.length_set]
    exact ok.lU
  · exact ok.lA
  · exact ok.lB
  · have := ok.lu i hi
    by_cases c : i = t - 1
    · subst c
      rw [nth_set_at (by omega)]
      omega
    · rw [nth_set_ne c]
      exact this
  · exact ok.ab i hi
  · rw [nth_set_ne (by omega)]
    exact ok.tot
section
variable {P : Program} {w : World} {K : PySem.W.Frag} {mg : Str → Option Value} {base : Heap}
def sp_Plan_joined (K : PySem.W.Frag) : Sp := fun vs H Q _ => ∃ (p q : Addr) (d e : PD), vs = [.ref p, .ref q] ∧ PlanAt K [] H p d ∧ PlanAt K [] H q e ∧ d.Ok ∧ e.Ok ∧ d.L.length + e.L.length ≤ 200 ∧ ∀ r H', Fr [] H H' → NewP K H H' r (d.joined e) → Q (.ref r) H'
theorem k_Plan_joined (T : Tx fa fn K mg base) : Mth P w K mg base (He.ga K "Plan") "joined" ["self", "other"] 5 (sp_Plan_joined K) s_Plan_joined "Plan.joined" := by
  refine T.mth 12 23 13 (q := "Plan.joined") (st := s_Plan_joined) sc_Plan_joined (fun _ _ _ _ _ _ us hl => match us, hl with | [_, _], _ => rfl) (fun vs H Q E h => ?_) (fun cdv A outer s H vs Q E hr h => ?_)
  · obtain ⟨p, q, d, e, rfl, _⟩ := h
    rfl
  · obtain ⟨p, q, d, e, rfl, pd, pe, ok, ok', hl, k⟩ := h
    have pd0 := pd
    obtain ⟨dx, l1, l2, l3, l4, h0, ⟨h1, h2, h3, h4⟩, _⟩ := pd.ex
    obtain ⟨dy, m1, m2, m3, m4, g0, ⟨g1, g2, g3, g4⟩, _⟩ := pe.ex
    have one := ok.one
    have lU := ok.lU
    have lA := ok.lA
    have lB := ok.lB
    have lU' := ok'.lU
    have lA' := ok'.lA
    have lB' := ok'.lB
    refine ⟨_, (pss_cons (ps_set (i := 2) sc_Plan_joined.nd rfl (by first | exact Or.inl rfl | exact Or.inr rfl) (pe_op op_cat (pe_fld (pv 0) rfl) (pe_lc (own := [("bound", 4)]) (tt := tYes) (te := (tOp (rI0 fun i j => .int (i + j)) (tProp (He.ga K "Plan") (sp_Plan_total K) [] E0 (tVar 0)) (tVar 4))) rfl sc_Plan_joined.nd (pi_list (pe_pr (pv 1) (k_Plan_low T) hr)) (blkOk_by (N := ["self", "other", "low", "high", "bound"]) (sc := defScope s_Plan_joined) (by decide +kernel)) (fun _ _ _ _ _ => (pg_name (i := 4) sc_Plan_joined.nd rfl (by first | exact Or.inl rfl | exact Or.inr rfl))) (fun _ _ _ _ _ => pts_nil) (fun _ _ _ _ _ => (pe_op op_add (pe_pr (pv 0) (k_Plan_total T) hr) (pv 4))))))
      (pss_cons (ps_set (i := 3) sc_Plan_joined.nd rfl (by first | exact Or.inl rfl | exact Or.inr rfl) (pe_op op_cat (pe_fld (pv 0) rfl) (pe_lc (own := [("bound", 4)]) (tt := tYes) (te := (tOp (rI0 fun i j => .int (i + j)) (tProp (He.ga K "Plan") (sp_Plan_total K) [] E0 (tVar 0)) (tVar 4))) rfl sc_Plan_joined.nd (pi_list (pe_pr (pv 1) (k_Plan_high T) hr)) (blkOk_by (N := ["self", "other", "low", "high", "bound"]) (sc := defScope s_Plan_joined) (by decide +kernel)) (fun _ _ _ _ _ => (pg_name (i := 4) sc_Plan_joined.nd rfl (by first | exact Or.inl rfl | exact Or.inr rfl))) (fun _ _ _ _ _ => pts_nil) (fun _ _ _ _ _ => (pe_op op_add (pe_pr (pv 0) (k_Plan_total T) hr) (pv 4))))))
      (pss_one (ps_ret (pe_mk (k_Plan___init__ T) (T.glo 21) hr (pa_cons (pv 2) (pa_cons (pv 3) (pa_cons (pe_op op_cat (pe_fld (pv 0) rfl) (pe_pr (pv 1) (k_Plan_least T) hr)) (pa_cons (pe_op op_cat (pe_fld (pv 0) rfl) (pe_pr (pv 1) (k_Plan_most T) hr)) pa_nil))))))))), ?_⟩
    walk_at "ev0"
    refine r_low T h0 ?_
    walk_at "ev"
    refine r_exp g0 ⟨q, e, rfl, pe, fun s1 k1 => ?_⟩
    have z1 := (Z.start0 H).alloc (.lst (e.L.map V.int)) k1
    walk_at "ev"
    refine lc_map (ns := e.L) (fun x => d.tot + x) (SqL.of (z1.get (.head _))) (by omega) (fun _ => rfl) (fun i H' R hi f kR => ?_) (fun D H' hD f hD' => ?_)
    · have h0' := f _ _ nin (z1.keep h0 (by simp))
      walk_at "ev"
      refine r_exp h0' ⟨p, d, rfl, pd0.mono ((z1.fr0 (by simp)).trans f), one, ?_⟩
      walk_at "ev"
      exact kR _ (Fr.refl _)
    have z2 := z1.comp f hD hD'
    clear hD hD' f
    have i1 := z2.keep h1 (by simp)
    walk_at "ev"
    rw [← List.map_append]
    intro s2 k2
    have z3 := z2.alloc (.lst ((d.joined e).L.map V.int)) k2
    have f3 := z3.fr0 (by simp)
    have h0' := f3 _ _ nin h0
    have g0' := f3 _ _ nin g0
    walk_at "ev"
    refine r_high T h0' ?_
    walk_at "ev"
    refine r_exp g0' ⟨q, e, rfl, pe.mono f3, fun s4 k4 => ?_⟩
    have z4 := z3.alloc (.lst (e.U.map V.int)) k4
    walk_at "ev"
    refine lc_map (ns := e.U) (fun x => d.tot + x) (SqL.of (z4.get (.head _))) (by omega) (fun _ => rfl) (fun i H' R hi f kR => ?_) (fun D5 H5 hD f hD' => ?_)
    · have h0' := f _ _ nin (z4.keep h0 (by simp))
      walk_at "ev"
      refine r_exp h0' ⟨p, d, rfl, pd0.mono ((z4.fr0 (by simp)).trans f), one, ?_⟩
      walk_at "ev"
      exact kR _ (Fr.refl _)
    have z5 := z4.comp f hD hD'
    clear hD hD' f
    have i2 := z5.keep h2 (by simp)
    walk_at "ev"
    rw [← List.map_append]
    intro s6 k6
    have z6 := z5.alloc (.lst ((d.joined e).U.map V.int)) k6
    have f6 := z6.fr0 (by simp)
    have h0' := f6 _ _ nin h0
    have g0' := f6 _ _ nin g0
    walk_at "ev"
    refine r_least T h0' ?_
    walk_at "ev"
    refine r_exp g0' ⟨q, e, rfl, pe.mono f6, fun s7 k7 => ?_⟩
    have z7 := z6.alloc (.lst (e.A.map V.int)) k7
    have i3 := z7.keep h3 (by simp)
    walk_at "ev"
    rw [← List.map_append]
    intro s8 k8
    have z8 := z7.alloc (.lst ((d.joined e).A.map V.int)) k8
    have f8 := z8.fr0 (by simp)
    have h0' := f8 _ _ nin h0
    have g0' := f8 _ _ nin g0
    walk_at "ev"
    refine r_most T h0' ?_
    walk_at "ev"
    refine r_exp g0' ⟨q, e, rfl, pe.mono f8, fun s9 k9 => ?_⟩
    have z9 := z8.alloc (.lst (e.B.map V.int)) k9
    have i4 := z9.keep h4 (by simp)
    walk_at "ev"
    rw [← List.map_append]
    intro s10 k10
    have z10 := z9.alloc (.lst ((d.joined e).B.map V.int)) k10
    have f10 := z10.fr0 (by simp)
    walk_at "ev"
    refine r_plan (d := d.joined e) (ok.joined ok' hl) (z10.get (.tail _ (.tail _ (.tail _ (.tail _ (.tail _ (.tail _ (.tail _ (.head _))))))))) (z10.get (.tail _ (.tail _ (.tail _ (.tail _ (.head _)))))) (z10.get (.tail _ (.tail _ (.head _)))) (z10.get (.head _)) fun q H5 f n => ?_
    exact k q H5 (f10.trans f) (n.fwd f10)
def sp_Plan_part (K : PySem.W.Frag) : Sp := fun vs H Q _ => ∃ (p : Addr) (d : PD) (f l : Nat) (b e : Int), vs = [.ref p, .int (f : Nat), .int (l : Nat), .int b, .int e] ∧ PlanAt K [] H p d ∧ d.Ok ∧ (f < l ∧ l ≤ d.L.length) ∧
  (nth (0 :: d.L) f ≤ b ∧ b ≤ nth (0 :: d.U) f) ∧ (nth (0 :: d.L) l ≤ e ∧ e ≤ nth (0 :: d.U) l) ∧ ∀ r H', Fr [] H H' → NewP K H H' r (d.part f l b e) → Q (.ref r) H'
theorem k_Plan_part (T : Tx fa fn K mg base) : Mth P w K mg base (He.ga K "Plan") "part" ["self", "first", "last", "begin", "end"] 5 (sp_Plan_part K) s_Plan_part "Plan.part" := by
  refine T.mth 13 24 13 (q := "Plan.part") (st := s_Plan_part) sc_Plan_part (fun _ _ _ _ _ _ us hl => match us, hl with | [_, _, _, _, _], _ => rfl) (fun vs H Q E h => ?_) (fun cdv A outer s H vs Q E hr h => ?_)
  · obtain ⟨p, d, f, l, b, e, rfl, _⟩ := h
    rfl
  · obtain ⟨p, d, f, l, b, e, rfl, pd, ok, ⟨c1, c2⟩, ⟨c3, c4⟩, ⟨c5, c6⟩, k⟩ := h
    have pd0 := pd
    obtain ⟨dx, l1, l2, l3, l4, h0, ⟨h1, h2, h3, h4⟩, _⟩ := pd.ex
    have one := ok.one
    have most := ok.most
    have lU := ok.lU
    have lA := ok.lA
    have lB := ok.lB
    refine ⟨_, (pss_cons (ps_if (pt_not (pt_val (pe_f (k_is_between T) hr (pa_cons (pv 1) (pa_cons pe_int (pa_cons (pe_op op_sub (pe_callB (cr_lenP (k_Plan___len__ T) (hr.mono (by decide))) (by rfl) (T.fr 6) (by decide +kernel) (pa_cons (pv 0) pa_nil)) pe_int) pa_nil)))))) (pss_one ps_never) pss_nil)
      (pss_cons (ps_if (pt_not (pt_val (pe_f (k_is_between T) hr (pa_cons (pv 2) (pa_cons (pe_op op_add (pv 1) pe_int) (pa_cons (pe_callB (cr_lenP (k_Plan___len__ T) (hr.mono (by decide))) (by rfl) (T.fr 6) (by decide +kernel) (pa_cons (pv 0) pa_nil)) pa_nil)))))) (pss_one ps_never) pss_nil)
      (pss_cons (ps_par (i := 5) (j := 6) (by rfl) sc_Plan_part.nd rfl rfl (by decide) rfl rfl (pa_cons (pe_op op_cat (pe_lst (pa_cons pe_int pa_nil)) (pe_fld (pv 0) rfl)) (pa_cons (pe_op op_cat (pe_lst (pa_cons pe_int pa_nil)) (pe_fld (pv 0) rfl)) pa_nil)) (by rfl))
      (pss_cons (ps_if (pt_not (pt_val (pe_f (k_is_between T) hr (pa_cons (pv 3) (pa_cons (pe_ix ix_list (pv 5) (pv 1) (fun _ _ => rfl)) (pa_cons (pe_ix ix_list (pv 6) (pv 1) (fun _ _ => rfl)) pa_nil)))))) (pss_one ps_never) pss_nil)
      (pss_cons (ps_if (pt_not (pt_val (pe_f (k_is_between T) hr (pa_cons (pv 4) (pa_cons (pe_ix ix_list (pv 5) (pv 2) (fun _ _ => rfl)) (pa_cons (pe_ix ix_list (pv 6) (pv 2) (fun _ _ => rfl)) pa_nil)))))) (pss_one ps_never) pss_nil)
      (pss_cons (ps_setLc (i := 7) (own := [("bound", 10)]) (tt := tYes) (te := (tOp (rI0 fun i j => .int (i - j)) (tVar 10) (tVar 3))) rfl sc_Plan_part.nd rfl rfl (sw_true rfl rfl rfl (by decide +kernel)) (pi_list (pe_slice sl_list (pv 5) (po_some (pe_op op_add (pv 1) pe_int)) (po_some (pv 2)))) (blkOk_by (N := ["self", "first", "last", "begin", "end", "low", "high", "inner_low", "inner_high", "total", "bound"]) (sc := defScope s_Plan_part) (by decide +kernel)) (fun _ _ _ _ _ => (pg_name (i := 10) sc_Plan_part.nd rfl (by first | exact Or.inl rfl | exact Or.inr rfl))) (fun _ _ _ _ _ => pts_nil) (fun _ _ _ _ _ => (pe_op op_sub (pv 10) (pv 3))))
      (pss_cons (ps_setLc (i := 8) (own := [("bound", 10)]) (tt := tYes) (te := (tOp (rI0 fun i j => .int (i - j)) (tVar 10) (tVar 3))) rfl sc_Plan_part.nd rfl rfl (sw_true rfl rfl rfl (by decide +kernel)) (pi_list (pe_slice sl_list (pv 6) (po_some (pe_op op_add (pv 1) pe_int)) (po_some (pv 2)))) (blkOk_by (N := ["self", "first", "last", "begin", "end", "low", "high", "inner_low", "inner_high", "total", "bound"]) (sc := defScope s_Plan_part) (by decide +kernel)) (fun _ _ _ _ _ => (pg_name (i := 10) sc_Plan_part.nd rfl (by first | exact Or.inl rfl | exact Or.inr rfl))) (fun _ _ _ _ _ => pts_nil) (fun _ _ _ _ _ => (pe_op op_sub (pv 10) (pv 3))))
      (pss_cons (ps_set (i := 9) sc_Plan_part.nd rfl (by first | exact Or.inl rfl | exact Or.inr rfl) (pe_op op_sub (pv 4) (pv 3)))
      (pss_one (ps_ret (pe_mk (k_Plan___init__ T) (T.glo 21) hr (pa_cons (pe_op op_cat (pv 7) (pe_lst (pa_cons (pv 9) pa_nil))) (pa_cons (pe_op op_cat (pv 8) (pe_lst (pa_cons (pv 9) pa_nil))) (pa_cons (pe_slice sl_list (pe_fld (pv 0) rfl) (po_some (pv 1)) (po_some (pv 2))) (pa_cons (pe_slice sl_list (pe_fld (pv 0) rfl) (po_some (pv 1)) (po_some (pv 2))) pa_nil))))))))))))))), ?_⟩
    walk_at "ev0"
    refine r_lenD pd0 (by omega) ?_
    walk_at "ev"
    refine between (by omega) (by omega) ?_
    walk_at "ev"
    refine r_lenD pd0 (by omega) ?_
    walk_at "ev"
    refine between (by omega) (by omega) ?_
    walk_at "ev"
    have nL : (0 :: d.L).length = d.L.length + 1 := rfl
    have nU : (0 :: d.U).length = d.U.length + 1 := rfl
    have sL := seg_len (ns := 0 :: d.L) (i := f + 1) (j := l) (by omega) (by omega)
    have sU := seg_len (ns := 0 :: d.U) (i := f + 1) (j := l) (by omega) (by omega)
    intro s1 k1
    have z1 := (Z.start0 H).alloc (.lst [.int 0]) k1
    have h0' := z1.keep h0 (by simp)
    walk_at "ev"
    refine r_low T h0' ?_
    have i1 := z1.keep h1 (by simp)
    walk_at "ev"
    rw [show [V.int 0] ++ d.L.map V.int = (0 :: d.L).map V.int from rfl]
    intro s2 k2
    have z2 := z1.alloc (.lst ((0 :: d.L).map V.int)) k2
    walk_at "ev"
    intro s3 k3
    have z3 := z2.alloc (.lst [.int 0]) k3
    have h0' := z3.keep h0 (by simp)
    walk_at "ev"
    refine r_high T h0' ?_
    have i2 := z3.keep h2 (by simp)
    walk_at "ev"
    rw [show [V.int 0] ++ d.U.map V.int = (0 :: d.U).map V.int from rfl]
    intro s4 k4
    have z4 := z3.alloc (.lst ((0 :: d.U).map V.int)) k4
    walk_at "ev"
    refine r_at (atN (by omega)) ?_
    walk_at "ev"
    refine r_at (atN (by omega)) ?_
    walk_at "ev"
    refine between c3 c4 ?_
    walk_at "ev"
    refine r_at (atN (by omega)) ?_
    walk_at "ev"
    refine r_at (atN (by omega)) ?_
    walk_at "ev"
    refine between c5 c6 ?_
    walk_at "ev"
    rw [cut_seg1 (by omega) (by omega)]
    intro s5 k5
    have z5 := z4.alloc (.lst ((seg (0 :: d.L) (f + 1) l).map V.int)) k5
    walk_at "ev"
    refine lc_map (ns := seg (0 :: d.L) (f + 1) l) (fun x => x - b) (SqL.of (z5.get (.head _))) (by omega) (fun _ => rfl) (fun i H' R hi f kR => ?_) (fun D6 H6 hD f6 hD' => ?_)
    · walk_at "ev"
      exact kR _ (Fr.refl _)
    have z6 := z5.comp f6 hD hD'
    clear hD hD' f6
    walk_at "ev"
    rw [cut_seg1 (by omega) (by omega)]
    intro s7 k7
    have z7 := z6.alloc (.lst ((seg (0 :: d.U) (f + 1) l).map V.int)) k7
    walk_at "ev"
    refine lc_map (ns := seg (0 :: d.U) (f + 1) l) (fun x => x - b) (SqL.of (z7.get (.head _))) (by omega) (fun _ => rfl) (fun i H' R hi f kR => ?_) (fun D8 H8 hD f8 hD' => ?_)
    · walk_at "ev"
      exact kR _ (Fr.refl _)
    have z8 := z7.comp f8 hD hD'
    clear hD hD' f8
    walk_at "ev"
    intro s9 k9
    have z9 := z8.alloc (.lst [.int (e - b)]) k9
    walk_at "ev"
    rw [show ((seg (0 :: d.L) (f + 1) l).map fun x => x - b).map V.int ++ [V.int (e - b)] = (d.part f l b e).L.map V.int by simp [PD.part]]
    intro s10 k10
    have z10 := z9.alloc (.lst ((d.part f l b e).L.map V.int)) k10
    walk_at "ev"
    intro s11 k11
    have z11 := z10.alloc (.lst [.int (e - b)]) k11
    walk_at "ev"
    rw [show ((seg (0 :: d.U) (f + 1) l).map fun x => x - b).map V.int ++ [V.int (e - b)] = (d.part f l b e).U.map V.int by simp [PD.part]]
    intro s12 k12
    have z12 := z11.alloc (.lst ((d.part f l b e).U.map V.int)) k12
    have h0' := z12.keep h0 (by simp)
    have i3 := z12.keep h3 (by simp)
    walk_at "ev"
    refine r_least T h0' ?_
    walk_at "ev"
    rw [cut_segN (by omega) (by omega)]
    intro s13 k13
    have z13 := z12.alloc (.lst ((seg d.A f l).map V.int)) k13
    have h0' := z13.keep h0 (by simp)
    have i4 := z13.keep h4 (by simp)
    walk_at "ev"
    refine r_most T h0' ?_
    walk_at "ev"
    rw [cut_segN (by omega) (by omega)]
    intro s14 k14
    have z14 := z13.alloc (.lst ((seg d.B f l).map V.int)) k14
    walk_at "ev"
    refine r_plan (d := d.part f l b e) (ok.part b e c1 c2) (z14.get (.tail _ (.tail _ (.tail _ (.tail _ (.head _)))))) (z14.get (.tail _ (.tail _ (.head _)))) (z14.get (.tail _ (.head _))) (z14.get (.head _)) fun q H5 f n => ?_
    have f14 := z14.fr0 (by simp)
    exact k q H5 (f14.trans f) (n.fwd f14)
def sp_check_bound (K : PySem.W.Frag) : Sp := fun vs H Q _ => ∃ (p : Addr) (d : PD) (t : Nat) (up : Bool), vs = [.ref p, .int (t : Nat), .str (if up = true then "high" else "low")] ∧ PlanAt K [] H p d ∧ d.Ok ∧ (1 ≤ t ∧ t < d.L.length) ∧
  ∀ H', Fr [] H H' → Q .non H'
theorem k_check_bound (T : Tx fa fn K mg base) : Fk P w K mg base "check_bound" ["plan", "time", "side"] 3 (sp_check_bound K) s_check_bound "check_bound" := by
  refine T.fk 14 25 (q := "check_bound") (st := s_check_bound) sc_check_bound (fun _ _ _ _ _ _ us hl => match us, hl with | [_, _, _], _ => rfl) (fun vs H Q E h => ?_) (fun cdv A outer s H vs Q E hr h => ?_)
  · obtain ⟨p, d, t, up, rfl, _⟩ := h
    rfl
  · obtain ⟨p, d, t, up, rfl, pd, ok, ⟨c1, c2⟩, k⟩ := h
    have pd0 := pd
    have one := ok.one
    have most := ok.most
    refine ⟨_, (pss_cons (ps_if (pt_not (pt_val (pe_f (k_is_between T) hr (pa_cons (pv 1) (pa_cons pe_int (pa_cons (pe_op op_sub (pe_callB (cr_lenP (k_Plan___len__ T) (hr.mono (by decide))) (by rfl) (T.fr 6) (by decide +kernel) (pa_cons (pv 0) pa_nil)) pe_int) pa_nil)))))) (pss_one ps_never) pss_nil)
      (pss_one (ps_if (pt_cmpR op_notIn_seq (pv 2) (pe_tup (pa_cons pe_str (pa_cons pe_str pa_nil))) (by rfl)) (pss_one ps_never) pss_nil))), ?_⟩
    walk_at "ev0"
    refine r_lenD pd0 (by omega) ?_
    walk_at "ev"
    refine between (by omega) (by omega) ?_
    walk_at "ev"
    cases up with
    | false =>
      intro u1 k1
      have z1 := (Z.start0 H).alloc (.tup [.str "low", .str "high"]) k1
      refine r_notIn (b := true) (.inr (SqT.of upd_same)) rfl rfl (by decide +kernel) ?_
      walk_at "ev"
      exact k _ (z1.fr0 (by simp))
    | true =>
      intro u1 k1
      have z1 := (Z.start0 H).alloc (.tup [.str "low", .str "high"]) k1
      refine r_notIn (b := true) (.inr (SqT.of upd_same)) rfl rfl (by decide +kernel) ?_
      walk_at "ev"
      exact k _ (z1.fr0 (by simp))
def sp_Plan_loosened (K : PySem.W.Frag) : Sp := fun vs H Q _ => ∃ (p : Addr) (d : PD) (t : Nat) (up : Bool), vs = [.ref p, .int (t : Nat), .str (if up = true then "high" else "low")] ∧ PlanAt K [] H p d ∧ d.Ok ∧ (1 ≤ t ∧ t < d.L.length) ∧
  ∀ r H', Fr [] H H' → NewP K H H' r (if up = true then d.looseU t else d.looseL t) → Q (.ref r) H'
theorem k_Plan_loosened (T : Tx fa fn K mg base) : Mth P w K mg base (He.ga K "Plan") "loosened" ["self", "time", "side"] 5 (sp_Plan_loosened K) s_Plan_loosened "Plan.loosened" := by
  refine T.mth 15 29 13 (q := "Plan.loosened") (st := s_Plan_loosened) sc_Plan_loosened (fun _ _ _ _ _ _ us hl => match us, hl with | [_, _, _], _ => rfl) (fun vs H Q E h => ?_) (fun cdv A outer s H vs Q E hr h => ?_)
  · obtain ⟨p, d, t, up, rfl, _⟩ := h
    rfl
  · obtain ⟨p, d, t, up, rfl, pd, ok, ⟨c1, c2⟩, k⟩ := h
    have pd0 := pd
    obtain ⟨dx, l1, l2, l3, l4, h0, ⟨h1, h2, h3, h4⟩, _⟩ := pd.ex
    have one := ok.one
    have most := ok.most
    have lU := ok.lU
    have lA := ok.lA
    have lB := ok.lB
    refine ⟨_, (pss_cons (ps_expr (pe_f (k_check_bound T) hr (pa_cons (pv 0) (pa_cons (pv 1) (pa_cons (pv 2) pa_nil)))))
      (pss_cons (ps_par3 (i := 3) (j := 4) (l := 5) (by rfl) sc_Plan_loosened.nd rfl rfl rfl (by decide) (by decide) (by decide) rfl rfl rfl (pa_cons (pe_pr (pv 0) (k_Plan_low T) hr) (pa_cons (pe_pr (pv 0) (k_Plan_high T) hr) (pa_cons (pe_op op_sub (pv 1) pe_int) pa_nil))) (by rfl))
      (pss_cons (ps_if (pt_cmpR op_eq (pv 2) pe_str (nomark _)) (pss_one (ps_asg (pe_callB (call_min3Nu rfl) (by rfl) (T.fr 28) (by decide +kernel) (pa_cons (pe_ix ix_list (pv 3) (pv 5) (fun _ _ => rfl)) (pa_cons (pe_callB (cr_sum rfl) (by rfl) (T.fr 27) (by decide +kernel) (pa_cons (pe_slice sl_list (pe_fld (pv 0) rfl) po_none (po_some (pv 1))) pa_nil)) (pa_cons (pe_op op_sub (pe_pr (pv 0) (k_Plan_total T) hr) (pe_callB (cr_sum rfl) (by rfl) (T.fr 27) (by decide +kernel) (pa_cons (pe_slice sl_list (pe_fld (pv 0) rfl) (po_some (pv 1)) po_none) pa_nil))) pa_nil)))) (pg_sub (pv 3) (pv 5) set_list))) (pss_one (ps_asg (pe_callB (call_max3Nu rfl) (by rfl) (T.fr 26) (by decide +kernel) (pa_cons (pe_ix ix_list (pv 4) (pv 5) (fun _ _ => rfl)) (pa_cons (pe_callB (cr_sum rfl) (by rfl) (T.fr 27) (by decide +kernel) (pa_cons (pe_slice sl_list (pe_fld (pv 0) rfl) po_none (po_some (pv 1))) pa_nil)) (pa_cons (pe_op op_sub (pe_pr (pv 0) (k_Plan_total T) hr) (pe_callB (cr_sum rfl) (by rfl) (T.fr 27) (by decide +kernel) (pa_cons (pe_slice sl_list (pe_fld (pv 0) rfl) (po_some (pv 1)) po_none) pa_nil))) pa_nil)))) (pg_sub (pv 4) (pv 5) set_list))))
      (pss_one (ps_ret (pe_mk (k_Plan___init__ T) (T.glo 21) hr (pa_cons (pv 3) (pa_cons (pv 4) (pa_cons (pe_fld (pv 0) rfl) (pa_cons (pe_fld (pv 0) rfl) pa_nil)))))))))), ?_⟩
    walk_at "ev0"
    refine ⟨p, d, t, up, rfl, pd0, ok, ⟨c1, c2⟩, fun H1 f1 => ?_⟩
    have z1 := (Z.start0 H).same f1
    walk_at "ev"
    cases up with
    | false =>
      have g0 := z1.keep h0 (by simp)
      refine r_exp g0 ⟨p, d, rfl, pd0.mono (z1.fr0 (by simp)), fun s1 k2 => ?_⟩
      have z2 := z1.alloc (.lst (d.L.map V.int)) k2
      have g0 := z2.keep h0 (by simp)
      walk_at "ev"
      refine r_exp g0 ⟨p, d, rfl, pd0.mono (z2.fr0 (by simp)), fun s2 k3 => ?_⟩
      have z3 := z2.alloc (.lst (d.U.map V.int)) k3
      walk_at "ev"
      have ee : decide (V.str (if (false : Bool) = true then ("high" : Str) else ("low" : Str)) = V.str "low") = true := by decide +kernel
      rw [ee]
      walk_at "ev"
      refine r_at (atN1 c1 (by omega)) ?_
      walk_at "ev"
      have g0 := z3.keep h0 (by simp)
      have gx := z3.keep h3 (by simp)
      refine r_least T g0 ?_
      walk_at "ev"
      rw [cut_uptoN (by omega)]
      intro s4 k4
      have z4 := z3.alloc (.lst ((d.A.take t).map V.int)) k4
      walk_at "ev"
      have g0 := z4.keep h0 (by simp)
      have gy := z4.keep h4 (by simp)
      refine r_exp g0 ⟨p, d, rfl, pd0.mono (z4.fr0 (by simp)), one, ?_⟩
      walk_at "ev"
      refine r_most T g0 ?_
      walk_at "ev"
      rw [cut_fromN (by omega)]
      intro s5 k5
      have z5 := z4.alloc (.lst ((d.B.drop t).map V.int)) k5
      walk_at "ev"
      refine r_min3 rfl ?_
      walk_at "ev"
      refine r_ixn (ixN_m1 c1 (by rw [List.length_map]; omega)) ?_
      have z6 := z5.set 3 (.lst ((d.L.map V.int).set (t - 1) (.int (min (min (nth d.L (t - 1)) (d.A.take t).sum) (d.tot - (d.B.drop t).sum))))) rfl (.inr rfl)
      have g0 := z6.keep h0 (by simp)
      walk_at "ev"
      refine r_least T g0 ?_
      walk_at "ev"
      refine r_most T g0 ?_
      have f6 := z6.fr0 (by simp)
      refine r_plan (d := d.looseL t) (ok.looseL c1 c2) ((z6.get (.tail _ (.tail _ (.tail _ (.head _))))).trans (by rw [← List.map_set] <;> rfl)) (z6.get (.tail _ (.tail _ (.head _)))) (f6 _ _ nin h3) (f6 _ _ nin h4) fun q H5 f n => ?_
      exact k q H5 (f6.trans f) (n.fwd f6)
    | true =>
      have g0 := z1.keep h0 (by simp)
      refine r_exp g0 ⟨p, d, rfl, pd0.mono (z1.fr0 (by simp)), fun s1 k2 => ?_⟩
      have z2 := z1.alloc (.lst (d.L.map V.int)) k2
      have g0 := z2.keep h0 (by simp)
      walk_at "ev"
      refine r_exp g0 ⟨p, d, rfl, pd0.mono (z2.fr0 (by simp)), fun s2 k3 => ?_⟩
      have z3 := z2.alloc (.lst (d.U.map V.int)) k3
      walk_at "ev"
      have ee : decide (V.str (if (true : Bool) = true then ("high" : Str) else ("low" : Str)) = V.str "low") = false := by decide +kernel
      rw [ee]
      walk_at "ev"
      refine r_at (atN1 c1 (by omega)) ?_
      walk_at "ev"
      have g0 := z3.keep h0 (by simp)
      have gx := z3.keep h4 (by simp)
      refine r_most T g0 ?_
      walk_at "ev"
      rw [cut_uptoN (by omega)]
      intro s4 k4
      have z4 := z3.alloc (.lst ((d.B.take t).map V.int)) k4
      walk_at "ev"
      have g0 := z4.keep h0 (by simp)
      have gy := z4.keep h3 (by simp)
      refine r_exp g0 ⟨p, d, rfl, pd0.mono (z4.fr0 (by simp)), one, ?_⟩
      walk_at "ev"
      refine r_least T g0 ?_
      walk_at "ev"
      rw [cut_fromN (by omega)]
      intro s5 k5
      have z5 := z4.alloc (.lst ((d.A.drop t).map V.int)) k5
      walk_at "ev"
      refine r_max3 rfl ?_
      walk_at "ev"
      refine r_ixn (ixN_m1 c1 (by rw [List.length_map]; omega)) ?_
      have z6 := z5.set 2 (.lst ((d.U.map V.int).set (t - 1) (.int (max (max (nth d.U (t - 1)) (d.B.take t).sum) (d.tot - (d.A.drop t).sum))))) rfl (.inr rfl)
      have g0 := z6.keep h0 (by simp)
      walk_at "ev"
      refine r_least T g0 ?_
      walk_at "ev"
      refine r_most T g0 ?_
      have f6 := z6.fr0 (by simp)
      refine r_plan (d := d.looseU t) (ok.looseU c1 c2) (z6.get (.tail _ (.tail _ (.tail _ (.head _))))) ((z6.get (.tail _ (.tail _ (.head _)))).trans (by rw [← List.map_set] <;> rfl)) (f6 _ _ nin h3) (f6 _ _ nin h4) fun q H5 f n => ?_
      exact k q H5 (f6.trans f) (n.fwd f6)
end

set_option Elab.async false
set_option linter.all false
set_option maxRecDepth 100000
set_option maxHeartbeats 4000000
set_option exponentiation.threshold 2000

section
variable {P : Program} {w : World} {K : PySem.W.Frag} {mg : Str → Option Value} {base : Heap}
def sp__law_joined (K : PySem.W.Frag) : Sp := fun vs H Q _ => ∃ (r s : Addr) (d e : PD), vs = [.ref r, .ref s] ∧ RawAt [] H true r d ∧ RawAt [] H true s e ∧ d.Ok ∧ e.Ok ∧ ∀ q H', Fr [] H H' → NewR H H' true q (d.joined e) → Q (.ref q) H'
theorem k__law_joined (T : Tx fa fn K mg base) : Fk P w K mg base "_law_joined" ["one", "two"] 1 (sp__law_joined K) s__law_joined "_law_joined" := by
  refine T.fk 22 38 (q := "_law_joined") (st := s__law_joined) sc__law_joined (fun _ _ _ _ _ _ us hl => match us, hl with | [_, _], _ => rfl) (fun vs H Q E h => ?_) (fun cdv A outer s H vs Q E hr h => ?_)
  · obtain ⟨r, s, d, e, rfl, _⟩ := h
    rfl
  · obtain ⟨r, s, d, e, rfl, ra, rb, ok, ok', k⟩ := h
    obtain ⟨l1, l2, l3, l4, h0, ⟨h1, h2, h3, h4⟩, _⟩ := ra.ex
    have h0 : H r = some (.tup [.ref l1, .ref l2, .ref l3, .ref l4]) := h0
    obtain ⟨m1, m2, m3, m4, g0, ⟨g1, g2, g3, g4⟩, _⟩ := rb.ex
    have g0 : H s = some (.tup [.ref m1, .ref m2, .ref m3, .ref m4]) := g0
    have one := ok.one
    have most := ok.most
    have lU := ok.lU
    have lA := ok.lA
    have lB := ok.lB
    have most' := ok'.most
    have lU' := ok'.lU
    have lA' := ok'.lA
    have lB' := ok'.lB
    refine ⟨_, (pss_cons (ps_set (i := 2) sc__law_joined.nd rfl (by first | exact Or.inl rfl | exact Or.inr rfl) (pe_ix ix_list (pe_ix ix_tup (pv 0) pe_int (fun _ _ => rfl)) (pe_un un_neg pe_int) (fun _ _ => rfl)))
      (pss_one (ps_ret (pe_tup (pa_cons (pe_op op_cat (pe_ix ix_tup (pv 0) pe_int (fun _ _ => rfl)) (pe_lc (own := [("bound", 3)]) (tt := tYes) (te := (tOp (rI0 fun i j => .int (i + j)) (tVar 2) (tVar 3))) rfl sc__law_joined.nd (pi_list (pe_ix ix_tup (pv 1) pe_int (fun _ _ => rfl))) (blkOk_by (N := ["one", "two", "whole", "bound"]) (sc := defScope s__law_joined) (by decide +kernel)) (fun _ _ _ _ _ => (pg_name (i := 3) sc__law_joined.nd rfl (by first | exact Or.inl rfl | exact Or.inr rfl))) (fun _ _ _ _ _ => pts_nil) (fun _ _ _ _ _ => (pe_op op_add (pv 2) (pv 3))))) (pa_cons (pe_op op_cat (pe_ix ix_tup (pv 0) pe_int (fun _ _ => rfl)) (pe_lc (own := [("bound", 3)]) (tt := tYes) (te := (tOp (rI0 fun i j => .int (i + j)) (tVar 2) (tVar 3))) rfl sc__law_joined.nd (pi_list (pe_ix ix_tup (pv 1) pe_int (fun _ _ => rfl))) (blkOk_by (N := ["one", "two", "whole", "bound"]) (sc := defScope s__law_joined) (by decide +kernel)) (fun _ _ _ _ _ => (pg_name (i := 3) sc__law_joined.nd rfl (by first | exact Or.inl rfl | exact Or.inr rfl))) (fun _ _ _ _ _ => pts_nil) (fun _ _ _ _ _ => (pe_op op_add (pv 2) (pv 3))))) (pa_cons (pe_op op_cat (pe_ix ix_tup (pv 0) pe_int (fun _ _ => rfl)) (pe_ix ix_tup (pv 1) pe_int (fun _ _ => rfl))) (pa_cons (pe_op op_cat (pe_ix ix_tup (pv 0) pe_int (fun _ _ => rfl)) (pe_ix ix_tup (pv 1) pe_int (fun _ _ => rfl))) pa_nil)))))))), ?_⟩
    walk_at "ev0"
    refine r_at (atI_end (by omega)) ?_
    walk_at "ev"
    refine lc_map (ns := e.L) (fun x => d.tot + x) (SqL.of g1) (by omega) (fun _ => rfl) (fun i H' R hi f kR => ?_) (fun D1 H1 hD f hD' => ?_)
    · walk_at "ev"
      exact kR _ (Fr.refl _)
    have z1 := (Z.start0 H).comp f hD hD'
    clear hD hD' f
    have i1 := z1.keep h1 (by simp)
    walk_at "ev"
    rw [← List.map_append]
    intro s2 k2
    have z2 := z1.alloc (.lst ((d.joined e).L.map V.int)) k2
    have i0 := z2.keep h0 (by simp)
    have j0 := z2.keep g0 (by simp)
    have j2 := z2.keep g2 (by simp)
    walk_at "ev"
    refine lc_map (ns := e.U) (fun x => d.tot + x) (SqL.of j2) (by omega) (fun _ => rfl) (fun i H' R hi f kR => ?_) (fun D3 H3 hD f hD' => ?_)
    · walk_at "ev"
      exact kR _ (Fr.refl _)
    have z3 := z2.comp f hD hD'
    clear hD hD' f
    have i2 := z3.keep h2 (by simp)
    walk_at "ev"
    rw [← List.map_append]
    intro s4 k4
    have z4 := z3.alloc (.lst ((d.joined e).U.map V.int)) k4
    have i0 := z4.keep h0 (by simp)
    have j0 := z4.keep g0 (by simp)
    have i3 := z4.keep h3 (by simp)
    have j3 := z4.keep g3 (by simp)
    walk_at "ev"
    rw [← List.map_append]
    intro s5 k5
    have z5 := z4.alloc (.lst ((d.joined e).A.map V.int)) k5
    have i0 := z5.keep h0 (by simp)
    have j0 := z5.keep g0 (by simp)
    have i4 := z5.keep h4 (by simp)
    have j4 := z5.keep g4 (by simp)
    walk_at "ev"
    rw [← List.map_append]
    intro s6 k6
    have z6 := z5.alloc (.lst ((d.joined e).B.map V.int)) k6
    walk_at "ev"
    intro t7 k7
    have z7 := z6.alloc (.tup [.ref s2, .ref s4, .ref s5, .ref s6]) k7
    refine k t7 _ (z7.fr0 (by simp)) fun J hJ => ?_
    have no := fun {a : Addr} {o : HO} m => z7.away (J := J) (a := a) (o := o) m hJ
    exact ⟨s2, s4, s5, s6, z7.get (.head _), ⟨z7.get (.tail _ (.tail _ (.tail _ (.tail _ (.tail _ (.head _)))))), z7.get (.tail _ (.tail _ (.tail _ (.head _)))), z7.get (.tail _ (.tail _ (.head _))), z7.get (.tail _ (.head _))⟩,
      no (.head _), no (.tail _ (.tail _ (.tail _ (.tail _ (.tail _ (.head _)))))), no (.tail _ (.tail _ (.tail _ (.head _)))), no (.tail _ (.tail _ (.head _))), no (.tail _ (.head _))⟩
def sp__law_between (K : PySem.W.Frag) : Sp := fun vs H Q _ => ∃ (j : Addr) (u o : Int) (n : Nat), vs = [.ref j, .int u, .int o] ∧ (u ≤ o ∧ o - u ≤ 2 ^ 160) ∧ JarAt H j (n + 2) ∧ ∀ v H', u ≤ v → v ≤ o → Fr [j] H H' → JarAt H' j n → Q (.int v) H'
theorem k__law_between (T : Tx fa fn K mg base) : Fk P w K mg base "_law_between" ["jar", "under", "over"] 2 (sp__law_between K) s__law_between "_law_between" := by
  refine T.fk 23 39 (q := "_law_between") (st := s__law_between) sc__law_between (fun _ _ _ _ _ _ us hl => match us, hl with | [_, _, _], _ => rfl) (fun vs H Q E h => ?_) (fun cdv A outer s H vs Q E hr h => ?_)
  · obtain ⟨j, u, o, n, rfl, _⟩ := h
    rfl
  · obtain ⟨j, u, o, n, rfl, ⟨c1, c2⟩, hj, k⟩ := h
    have big : (2 : Int) ^ 160 + 1 < 2 ^ 1000 := by decide +kernel
    refine ⟨_, (pss_one (ps_ret (pe_ix ix_list (pe_lst (pa_cons (pv 1) (pa_cons (pv 2) (pa_cons (pe_op op_add (pv 1) (pe_f (k__law_dip T) hr (pa_cons (pv 0) (pa_cons (pe_op op_add (pe_op op_sub (pv 2) (pv 1)) pe_int) pa_nil)))) pa_nil)))) (pe_f (k__law_dip T) hr (pa_cons (pv 0) (pa_cons pe_int pa_nil))) (fun _ _ => rfl)))), ?_⟩
    walk_at "ev0"
    refine ⟨j, o - u + 1, n + 1, rfl, hj, by omega, by omega, fun v1 H1 a1 b1 f1 q1 => ?_⟩
    have z1 := (ZJ.start hj).dips f1 q1
    walk_at "ev"
    intro t2 k2
    have z2 := z1.alloc (.lst [.int u, .int o, .int (u + v1)]) k2
    walk_at "ev"
    refine ⟨j, 3, n, rfl, z2.jar, by decide, by decide, fun v3 H3 a3 b3 f3 q3 => ?_⟩
    have z3 := z2.dips f3 q3
    obtain ⟨y, ey, hy⟩ := three (a := u) (b := o) (c := u + v1) a3 b3
    walk_at "ev"
    refine r_at ey ?_
    walk_at "ev"
    exact k y _ (by omega) (by omega) z3.fr z3.jar
/-- the name of a method of plans -/
inductive PM : Str → Prop where
  | joined : PM "joined"
  | part : PM "part"
  | loosened : PM "loosened"
theorem PM.no {m : Str} (h : PM m) (l1 l2 l3 l4 : Addr) : (flds l1 l2 l3 l4).lookup m = none := by
  cases h
  all_goals exact flds_no _ _ _ _ (by decide +kernel) (by decide +kernel) (by decide +kernel) (by decide +kernel)
/-- m is a method of the plan at p -/
theorem r_planM {H : Hp} {p : Addr} {d : PD} {m : Str} {R : Prop} (h : PlanAt K [] H p d) (n : PM m) (q : R) :
    ∃ b dx fs, V.ref p = .ref b ∧ H b = some (.ins (CP K) dx fs) ∧ fs.lookup m = none ∧ R := by
  obtain ⟨dx, l1, l2, l3, l4, h0, _⟩ := h.ex
  exact ⟨p, dx, _, rfl, h0, n.no _ _ _ _, q⟩
theorem atN2 {ns : List Int} {f i : Nat} (h : f + i < ns.length) : atI (ns.map V.int) ((f : Int) + (i : Int)) = some (.int (nth ns (f + i))) := atN (i := f + i) h
theorem seg_range {ns : List Int} {x : Int} {f g : Nat} (h : Int → Int) (hl : f + 1 + g ≤ ns.length) : ((List.range g).map fun i => h (nth ns (f + i))) = (seg (x :: ns) (f + 1) (f + 1 + g)).map h := by
  have hs : (seg (x :: ns) (f + 1) (f + 1 + g)).length = g := by
    rw [seg_len (by rw [List.length_cons]; omega) (by omega)]
    omega
  rw [← range_mapI, hs]
  refine List.map_congr_left fun i hi => ?_
  have := List.mem_range.mp hi
  rw [seg_nth (by rw [List.length_cons]; omega) (by omega), show f + 1 + i = f + i + 1 by omega, cons_nth]
def revA {α : Type} (us ws : List α) : List α := us ++ ws.reverse
theorem kr_rev {n : Nat} {vs : List V} {us : List Value} {zs : List V} {ws : List Value} (h1 : Vals vs us) (h2 : Vals zs ws) (_ : zs.length = n) (_ : vs.length = 1) : Vals (revA vs zs) (revA us ws) := h1.append h2.reverse
theorem kb_Plan_part_end_begin_last_first : KwOk "part" "Plan.part" s_Plan_part ["self", "first", "last", "begin", "end"] ["end", "begin", "last", "first"] 1 revA := fun _ _ _ _ _ _ us ws h1 h2 => match us, ws, h1, h2 with
  | [_], [_, _, _, _], _, _ => rfl
theorem kr_Plan_part_end_begin_last_first {vs : List V} {us : List Value} {zs : List V} {ws : List Value} (h1 : Vals vs us) (h2 : Vals zs ws) (h3 : zs.length = ["end", "begin", "last", "first"].length) (h4 : vs.length = 1) : Vals (revA vs zs) (revA us ws) := kr_rev h1 h2 h3 h4
theorem kb_Plan_loosened_side_time : KwOk "loosened" "Plan.loosened" s_Plan_loosened ["self", "time", "side"] ["side", "time"] 1 revA := fun _ _ _ _ _ _ us ws h1 h2 => match us, ws, h1, h2 with
  | [_], [_, _], _, _ => rfl
theorem kr_Plan_loosened_side_time {vs : List V} {us : List Value} {zs : List V} {ws : List Value} (h1 : Vals vs us) (h2 : Vals zs ws) (h3 : zs.length = ["side", "time"].length) (h4 : vs.length = 1) : Vals (revA vs zs) (revA us ws) := kr_rev h1 h2 h3 h4
theorem kb_Plan_joined_other : KwOk "joined" "Plan.joined" s_Plan_joined ["self", "other"] ["other"] 1 catA := fun _ _ _ _ _ _ us ws h1 h2 => match us, ws, h1, h2 with
  | [_], [_], _, _ => rfl
theorem kr_Plan_joined_other {vs : List V} {us : List Value} {zs : List V} {ws : List Value} (h1 : Vals vs us) (h2 : Vals zs ws) (_ : zs.length = ["other"].length) (_ : vs.length = 1) : Vals (catA vs zs) (catA us ws) := h1.append h2
def sp__law_part_right (K : PySem.W.Frag) : Sp := fun vs H Q _ => ∃ (j r : Addr) (d : PD) (n : Nat), vs = [.ref j, .ref r] ∧ RawAt [j] H true r d ∧ d.Ok ∧ (∀ i, i < d.L.length → nth d.U i - nth d.L i ≤ 2 ^ 160) ∧ JarAt H j (n + 6) ∧ ∀ H', Fr [j] H H' → JarAt H' j n → Q (.bl true) H'
theorem k__law_part_right (T : Tx fa fn K mg base) : Fk P w K mg base "_law_part_right" ["jar", "raw"] 6 (sp__law_part_right K) s__law_part_right "_law_part_right" := by
  refine T.fk 24 40 (q := "_law_part_right") (st := s__law_part_right) sc__law_part_right (fun _ _ _ _ _ _ us hl => match us, hl with | [_, _], _ => rfl) (fun vs H Q E h => ?_) (fun cdv A outer s H vs Q E hr h => ?_)
  · obtain ⟨j, r, d, n, rfl, _⟩ := h
    rfl
  · obtain ⟨j, r, d, n, rfl, ra, ok, nw, hj, k⟩ := h
    have ra0 := ra
    obtain ⟨l1, l2, l3, l4, h0, ⟨h1, h2, h3, h4⟩, n0, n1, n2, n3, n4⟩ := ra.ex
    have h0 : H r = some (.tup [.ref l1, .ref l2, .ref l3, .ref l4]) := h0
    have one := ok.one
    have most := ok.most
    have lU := ok.lU
    have lA := ok.lA
    have lB := ok.lB
    have hlen : (d.L.map V.int).length = d.L.length := List.length_map _
    refine ⟨_, (pss_cons (ps_asg (pv 1) (pg_tup rfl (pgs_cons (pg_name (i := 2) sc__law_part_right.nd rfl (by first | exact Or.inl rfl | exact Or.inr rfl)) (pgs_cons (pg_name (i := 3) sc__law_part_right.nd rfl (by first | exact Or.inl rfl | exact Or.inr rfl)) (pgs_cons (pg_name (i := 4) sc__law_part_right.nd rfl (by first | exact Or.inl rfl | exact Or.inr rfl)) (pgs_cons (pg_name (i := 5) sc__law_part_right.nd rfl (by first | exact Or.inl rfl | exact Or.inr rfl)) pgs_nil))))))
      (pss_cons (ps_set (i := 6) sc__law_part_right.nd rfl (by first | exact Or.inl rfl | exact Or.inr rfl) (pe_f (k__law_dip T) hr (pa_cons (pv 0) (pa_cons (pe_callB call_len_seq (by rfl) (T.fr 6) (by decide +kernel) (pa_cons (pv 2) pa_nil)) pa_nil))))
      (pss_cons (ps_set (i := 7) sc__law_part_right.nd rfl (by first | exact Or.inl rfl | exact Or.inr rfl) (pe_op op_add (pe_op op_add (pv 6) pe_int) (pe_f (k__law_dip T) hr (pa_cons (pv 0) (pa_cons (pe_op op_sub (pe_callB call_len_seq (by rfl) (T.fr 6) (by decide +kernel) (pa_cons (pv 2) pa_nil)) (pv 6)) pa_nil)))))
      (Evl.pss_cut (ps_set (i := 8) sc__law_part_right.nd rfl (by first | exact Or.inl rfl | exact Or.inr rfl) (pe_ifExp (pt_cmpR op_gt (pv 6) pe_int (nomark _)) (pe_f (k__law_between T) hr (pa_cons (pv 0) (pa_cons (pe_ix ix_list (pv 2) (pe_op op_sub (pv 6) pe_int) (fun _ _ => rfl)) (pa_cons (pe_ix ix_list (pv 3) (pe_op op_sub (pv 6) pe_int) (fun _ _ => rfl)) pa_nil)))) pe_int))
      (pss_cons (ps_set (i := 9) sc__law_part_right.nd rfl (by first | exact Or.inl rfl | exact Or.inr rfl) (pe_f (k__law_between T) hr (pa_cons (pv 0) (pa_cons (pe_ix ix_list (pv 2) (pe_op op_sub (pv 7) pe_int) (fun _ _ => rfl)) (pa_cons (pe_ix ix_list (pv 3) (pe_op op_sub (pv 7) pe_int) (fun _ _ => rfl)) pa_nil)))))
      (pss_cons (ps_set (i := 10) sc__law_part_right.nd rfl (by first | exact Or.inl rfl | exact Or.inr rfl) (pe_lst (pa_cons (pe_lst pa_nil) (pa_cons (pe_lst pa_nil) (pa_cons (pe_slice sl_list (pv 4) (po_some (pv 6)) (po_some (pv 7))) (pa_cons (pe_slice sl_list (pv 5) (po_some (pv 6)) (po_some (pv 7))) pa_nil))))))
      (pss_cons (ps_for PassesOwn.never rfl (pi_range2 (by rfl) (T.fr 34) (pa_cons (pv 6) (pa_cons (pe_op op_sub (pv 7) pe_int) pa_nil))) (pg_name (i := 11) sc__law_part_right.nd rfl (by first | exact Or.inl rfl | exact Or.inr rfl)) (pss_cons (ps_expr (pe_bm PySem.F.plainAttrs_list PySem.F.slot_list_append PySem.F.type_list_append mt_append (pe_ix ix_list (pv 10) pe_int (fun _ _ => rfl)) (pa_cons (pe_op op_sub (pe_ix ix_list (pv 2) (pv 11) (fun _ _ => rfl)) (pv 8)) pa_nil)))
      (pss_one (ps_expr (pe_bm PySem.F.plainAttrs_list PySem.F.slot_list_append PySem.F.type_list_append mt_append (pe_ix ix_list (pv 10) pe_int (fun _ _ => rfl)) (pa_cons (pe_op op_sub (pe_ix ix_list (pv 3) (pv 11) (fun _ _ => rfl)) (pv 8)) pa_nil))))))
      (pss_cons (ps_expr (pe_bm PySem.F.plainAttrs_list PySem.F.slot_list_append PySem.F.type_list_append mt_append (pe_ix ix_list (pv 10) pe_int (fun _ _ => rfl)) (pa_cons (pe_op op_sub (pv 9) (pv 8)) pa_nil)))
      (pss_cons (ps_expr (pe_bm PySem.F.plainAttrs_list PySem.F.slot_list_append PySem.F.type_list_append mt_append (pe_ix ix_list (pv 10) pe_int (fun _ _ => rfl)) (pa_cons (pe_op op_sub (pv 9) (pv 8)) pa_nil)))
      (pss_cons (ps_set (i := 12) sc__law_part_right.nd rfl (by first | exact Or.inl rfl | exact Or.inr rfl) (pe_f (k__law_heap T) hr (pa_cons (pv 1) pa_nil)))
      (pss_one (ps_ret (pe_and (pe_cmpR (op_eqP (k_Plan___eq__ T) (hr.mono (by decide))) (pe_mK (pv 12) (k_Plan_part T) hr (kb_Plan_part_end_begin_last_first) (kr_Plan_part_end_begin_last_first) (pk_cons (pv 9) (pk_cons (pv 8) (pk_cons (pv 7) (pk_cons (pv 6) pk_nil))))) (pe_f (k__law_heap T) hr (pa_cons (pv 10) pa_nil)) (nomark _)) (pe_one (pe_cmpR (op_eqP (k_Plan___eq__ T) (hr.mono (by decide))) (pv 12) (pe_f (k__law_heap T) hr (pa_cons (pv 1) pa_nil)) (nomark _)))))))))))))))), ?_⟩
    walk_at "ev0"
    have e1 : l1 ≠ j := fun e => n1 (by rw [e]; exact List.mem_cons_self)
    have e2 : l2 ≠ j := fun e => n2 (by rw [e]; exact List.mem_cons_self)
    have e3 : l3 ≠ j := fun e => n3 (by rw [e]; exact List.mem_cons_self)
    have e4 : l4 ≠ j := fun e => n4 (by rw [e]; exact List.mem_cons_self)
    have big : (1000 : Int) < 2 ^ 1000 := by decide +kernel
    refine ⟨j, _, n + 5, rfl, hj, by omega, by omega, fun v1 H1 a1 b1 f1 q1 => ?_⟩
    obtain ⟨f, rfl⟩ := Int.eq_ofNat_of_zero_le a1
    have z1 := (ZJ.start hj).dips f1 q1
    walk_at "ev"
    refine ⟨j, _, n + 4, rfl, z1.jar, by omega, by omega, fun v2 H2 a2 b2 f2 q2 => ?_⟩
    obtain ⟨g, rfl⟩ := Int.eq_ofNat_of_zero_le a2
    have z2 := z1.dips f2 q2
    have hfg : f + 1 + g ≤ d.L.length := by omega
    walk_at "ev"
    rw [show (f : Int) + 1 + (g : Int) = ((f + 1 + g : Nat) : Int) by omega]
    refine Evl.q_cut (M := fun σ' H' => ∃ b : Int, σ' = [some (.ref j), some (.ref r), some (.ref l1), some (.ref l2), some (.ref l3), some (.ref l4), some (.int (f : Nat)), some (.int ((f + 1 + g : Nat) : Int)), some (.int b), none, none, none, none] ∧
      ZJ H H' j (n + 2) [] ∧ nth (0 :: d.L) f ≤ b ∧ b ≤ nth (0 :: d.U) f) ?_ ?_
    · walk_at "ev"
      refine r_ite (fun c => ?_) (fun c => ?_)
      · obtain ⟨f', rfl⟩ : ∃ f', f = f' + 1 := ⟨f - 1, by omega⟩
        walk_at "ev"
        refine r_at (atN1 (by omega) (by omega)) ?_
        walk_at "ev"
        refine r_at (atN1 (by omega) (by omega)) ?_
        walk_at "ev"
        refine ⟨j, _, _, n + 2, rfl, ⟨ok.lu _ (by omega), nw _ (by omega)⟩, z2.jar, fun b H3 c1 c2 f3 q3 => ?_⟩
        walk_at "ev"
        exact ⟨b, rfl, z2.dips f3 q3, c1, c2⟩
      · obtain rfl : f = 0 := by omega
        walk_at "ev"
        exact ⟨0, rfl, z2.le (by omega), Int.le_refl _, Int.le_refl _⟩
    rintro σ' H3 ⟨b, rfl, z3, c1, c2⟩
    walk_at "ev"
    refine r_at (atN1 (by omega) (by omega)) ?_
    walk_at "ev"
    refine r_at (atN1 (by omega) (by omega)) ?_
    walk_at "ev"
    refine ⟨j, _, _, n, rfl, ⟨ok.lu _ (by omega), nw _ (by omega)⟩, z3.jar, fun e H4 c3 c4 f4 q4 => ?_⟩
    have z4 := z3.dips f4 q4
    have c3' : nth (0 :: d.L) (f + 1 + g) ≤ e := by
      rw [show f + 1 + g = f + g + 1 by omega, cons_nth]
      rw [show f + 1 + g - 1 = f + g by omega] at c3
      exact c3
    have c4' : e ≤ nth (0 :: d.U) (f + 1 + g) := by
      rw [show f + 1 + g = f + g + 1 by omega, cons_nth]
      rw [show f + 1 + g - 1 = f + g by omega] at c4
      exact c4
    walk_at "ev"
    intro s1 k1
    have z5 := z4.alloc (.lst []) k1
    walk_at "ev"
    intro s2 k2
    have z6 := z5.alloc (.lst []) k2
    walk_at "ev"
    rw [cut_segN (by omega) (by omega)]
    intro s3 k3
    have z7 := z6.alloc (.lst ((seg d.A f (f + 1 + g)).map V.int)) k3
    walk_at "ev"
    rw [cut_segN (by omega) (by omega)]
    intro s4 k4
    have z8 := z7.alloc (.lst ((seg d.B f (f + 1 + g)).map V.int)) k4
    walk_at "ev"
    intro t5 k5
    have z9 := z8.alloc (.lst [.ref s1, .ref s2, .ref s3, .ref s4]) k5
    walk_at "ev"
    refine ⟨⟨by omega, by omega, by omega, by omega⟩, ?_⟩
    have eg : (((f + 1 + g : Nat) : Int) - 1 - (f : Int)).toNat = g := by omega
    refine for_it (walk_range (lo := (f : Int)) (n := (((f + 1 + g : Nat) : Int) - 1 - (f : Int)).toNat)) (fun i σ H' => ∃ u : Option V, σ = [some (.ref j), some (.ref r), some (.ref l1), some (.ref l2), some (.ref l3), some (.ref l4), some (.int (f : Nat)), some (.int ((f + 1 + g : Nat) : Int)), some (.int b), some (.int e), some (.ref t5), u, none] ∧
      ZJ H H' j n [(2, t5, .lst [.ref s1, .ref s2, .ref s3, .ref s4]), (2, s4, .lst ((seg d.B f (f + 1 + g)).map V.int)), (2, s3, .lst ((seg d.A f (f + 1 + g)).map V.int)),
        (2, s2, .lst (((List.range i).map fun i => nth d.U (f + i) - b).map V.int)), (2, s1, .lst (((List.range i).map fun i => nth d.L (f + i) - b).map V.int))] ∧ i ≤ g) ⟨none, rfl, z9, Nat.zero_le _⟩ (fun _ _ _ _ _ => trivial) (fun i x σ H' H'' hi p y => ?_) (fun σ H6 p => ?_)
    · obtain ⟨u, rfl, z, hi0⟩ := p
      obtain ⟨rfl, rfl⟩ := y
      rw [eg] at hi
      walk_at "ev"
      refine r_at (atN2 (by omega)) ?_
      walk_at "ev"
      have w1 := z.set 4 (.lst (((List.range i).map fun i => nth d.L (f + i) - b).map V.int ++ [.int (nth d.L (f + i) - b)])) rfl
      change ZJ H _ _ _ _ at w1
      walk_at "ev"
      refine r_at (atN2 (by omega)) ?_
      walk_at "ev"
      have w2 := w1.set 3 (.lst (((List.range i).map fun i => nth d.U (f + i) - b).map V.int ++ [.int (nth d.U (f + i) - b)])) rfl
      refine ⟨_, rfl, ?_, by omega⟩
      rw [List.range_succ]
      simp only [List.map_append, List.map_cons, List.map_nil] at w2 ⊢
      exact w2
    obtain ⟨u, rfl, z, _⟩ := p
    rw [eg] at z
    have part := d.part f (f + 1 + g) b e
    walk_at "ev"
    have w1 := z.set 4 (.lst (((List.range g).map fun i => nth d.L (f + i) - b).map V.int ++ [.int (e - b)])) rfl
    change ZJ H _ _ _ _ at w1
    walk_at "ev"
    have w2 := w1.set 3 (.lst (((List.range g).map fun i => nth d.U (f + i) - b).map V.int ++ [.int (e - b)])) rfl
    change ZJ H _ _ _ _ at w2
    walk_at "ev"
    have q1 : ((List.range g).map fun i => nth d.L (f + i) - b).map V.int ++ [V.int (e - b)] = (d.part f (f + 1 + g) b e).L.map V.int := by
      rw [seg_range (x := 0) (fun x => x - b) hfg]
      simp [PD.part]
    have q2 : ((List.range g).map fun i => nth d.U (f + i) - b).map V.int ++ [V.int (e - b)] = (d.part f (f + 1 + g) b e).U.map V.int := by
      rw [seg_range (x := 0) (fun x => x - b) (by omega)]
      simp [PD.part]
    have rd : RawAt [] _ false t5 (d.part f (f + 1 + g) b e) := ⟨s1, s2, s3, s4, w2.get (.head _), ⟨(w2.get (.tail _ (.tail _ (.tail _ (.tail _ (.head _)))))).trans (by rw [q1]), (w2.get (.tail _ (.tail _ (.tail _ (.head _))))).trans (by rw [q2]), w2.get (.tail _ (.tail _ (.head _))), w2.get (.tail _ (.head _))⟩, nin, nin, nin, nin, nin⟩
    have raw := (ra0.mono w2.fr).nil
    have F := w2.fr
    have J := w2.jar
    clear w1 w2 z z9 z8 z7 z6 z5 z4 z3 z2 z1
    refine ⟨r, true, d, rfl, raw, ok, fun p H7 f7 n7 => ?_⟩
    walk_at "ev"
    refine r_planM n7.at ?nn ?_; (case nn => constructor)
    walk_at "ev"
    refine ⟨rfl, ?_⟩
    refine ⟨p, d, f, f + 1 + g, b, e, rfl, n7.at, ok, ⟨by omega, hfg⟩, ⟨c1, c2⟩, ⟨c3', c4'⟩, fun q8 H8 f8 n8 => ?_⟩
    walk_at "ev"
    refine ⟨t5, false, d.part f (f + 1 + g) b e, rfl, rd.mono (f7.trans f8), ok.part b e (by omega) hfg, fun q9 H9 f9 n9 => ?_⟩
    walk_at "ev"
    refine r_eqP (n8.at.mono f9) n9.at ?_
    rw [decide_eq_true rfl]
    walk_at "ev"
    have g9 := (f7.trans f8).trans f9
    refine ⟨r, true, d, rfl, raw.mono g9, ok, fun q10 H10 f10 n10 => ?_⟩
    walk_at "ev"
    refine r_eqP (n7.at.mono ((f8.trans f9).trans f10)) n10.at ?_
    rw [decide_eq_true rfl]
    have g10 := g9.trans f10
    exact k _ (F.trans g10.up0) (J.fr g10)
end

set_option Elab.async false
set_option linter.all false
set_option maxRecDepth 100000
set_option maxHeartbeats 4000000
set_option exponentiation.threshold 2000

theorem set_back {ns : List Int} {k : Nat} {x : V} : ((ns.map V.int).set k x).set k (.int (nth ns k)) = ns.map V.int := by
  rw [List.set_set]
  refine List.ext_getElem? fun i => ?_
  by_cases e : k = i
  · subst e
    by_cases h : k < ns.length
    · rw [List.getElem?_set_self (by rw [List.length_map]; exact h), at_nth h]
    · rw [List.getElem?_eq_none (by rw [List.length_set, List.length_map]; omega), List.getElem?_eq_none (by rw [List.length_map]; omega)]
  · rw [List.getElem?_set_ne e]
theorem Fr.set {J : List Addr} {H H1 : Hp} {p : Addr} {o : HO} (a : Fr J H H1) (hp : p ∈ J) : Fr J H (upd H1 p o) := fun x u hx h => by
  rw [upd_ne (fun e => hx (by rw [e]; exact hp))]
  exact a x u hx h
section
variable {P : Program} {w : World} {K : PySem.W.Frag} {mg : Str → Option Value} {base : Heap}
def sp__law_loose_right (K : PySem.W.Frag) : Sp := fun vs H Q _ => ∃ (j r : Addr) (d : PD) (n : Nat), vs = [.ref j, .ref r] ∧ RawAt [j] H true r d ∧ d.Ok ∧ 2 ≤ d.L.length ∧ JarAt H j (n + 1) ∧ ∀ H', Fr [j] H H' → JarAt H' j n → Q (.bl true) H'
theorem k__law_loose_right (T : Tx fa fn K mg base) : Fk P w K mg base "_law_loose_right" ["jar", "raw"] 6 (sp__law_loose_right K) s__law_loose_right "_law_loose_right" := by
  refine T.fk 25 43 (q := "_law_loose_right") (st := s__law_loose_right) sc__law_loose_right (fun _ _ _ _ _ _ us hl => match us, hl with | [_, _], _ => rfl) (fun vs H Q E h => ?_) (fun cdv A outer s H vs Q E hr h => ?_)
  · obtain ⟨j, r, d, n, rfl, _⟩ := h
    rfl
  · obtain ⟨j, r, d, n, rfl, ra, ok, two, hj, k⟩ := h
    have ra0 := ra
    obtain ⟨l1, l2, l3, l4, h0, ⟨h1, h2, h3, h4⟩, n0, n1, n2, n3, n4⟩ := ra.ex
    have h0 : H r = some (.tup [.ref l1, .ref l2, .ref l3, .ref l4]) := h0
    have one := ok.one
    have most := ok.most
    have lU := ok.lU
    have lA := ok.lA
    have lB := ok.lB
    have e0 : r ≠ j := fun e => n0 (by rw [e]; exact List.mem_cons_self)
    have e1 : l1 ≠ j := fun e => n1 (by rw [e]; exact List.mem_cons_self)
    have big : (1000 : Int) < 2 ^ 1000 := by decide +kernel
    have four : ∀ (i : Nat) (x : V), [V.ref l1, V.ref l2, V.ref l3, V.ref l4][i]? = some x → ∃ (a : Addr) (ns : List Int), x = .ref a ∧ H a = some (.lst (ns.map V.int)) ∧ ns.length ≤ 200 ∧ ([d.L, d.U, d.A, d.B].getD i []) = ns := by
      intro i x h
      match i, h with
      | 0, h => exact ⟨l1, d.L, (Option.some.inj h).symm, h1, by omega, rfl⟩
      | 1, h => exact ⟨l2, d.U, (Option.some.inj h).symm, h2, by omega, rfl⟩
      | 2, h => exact ⟨l3, d.A, (Option.some.inj h).symm, h3, by omega, rfl⟩
      | 3, h => exact ⟨l4, d.B, (Option.some.inj h).symm, h4, by omega, rfl⟩
    refine ⟨_, (pss_cons (ps_asg (pe_lc (own := [("bounds", 10)]) (tt := tYes) (te := (tCB (rListX K) (tCons (tVar 10) tNil))) rfl sc__law_loose_right.nd (pi_tup (pv 1)) (blkOk_by (N := ["jar", "raw", "lows", "highs", "leasts", "mosts", "spot", "made", "ahead", "behind", "bounds"]) (sc := defScope s__law_loose_right) (by decide +kernel)) (fun _ _ _ _ _ => (pg_name (i := 10) sc__law_loose_right.nd rfl (by first | exact Or.inl rfl | exact Or.inr rfl))) (fun _ _ _ _ _ => pts_nil) (fun _ _ _ _ _ => (pe_callTy call_list_of (by rfl) (T.fr 8) (by decide +kernel) (pa_cons (pv 10) pa_nil)))) (pg_lst rfl (pgs_cons (pg_name (i := 2) sc__law_loose_right.nd rfl (by first | exact Or.inl rfl | exact Or.inr rfl)) (pgs_cons (pg_name (i := 3) sc__law_loose_right.nd rfl (by first | exact Or.inl rfl | exact Or.inr rfl)) (pgs_cons (pg_name (i := 4) sc__law_loose_right.nd rfl (by first | exact Or.inl rfl | exact Or.inr rfl)) (pgs_cons (pg_name (i := 5) sc__law_loose_right.nd rfl (by first | exact Or.inl rfl | exact Or.inr rfl)) pgs_nil))))))
      (pss_cons (ps_set (i := 6) sc__law_loose_right.nd rfl (by first | exact Or.inl rfl | exact Or.inr rfl) (pe_op op_add pe_int (pe_f (k__law_dip T) hr (pa_cons (pv 0) (pa_cons (pe_op op_sub (pe_callB call_len_seq (by rfl) (T.fr 6) (by decide +kernel) (pa_cons (pv 2) pa_nil)) pe_int) pa_nil)))))
      (pss_cons (ps_set (i := 7) sc__law_loose_right.nd rfl (by first | exact Or.inl rfl | exact Or.inr rfl) (pe_f (k__law_heap T) hr (pa_cons (pv 1) pa_nil)))
      (pss_cons (ps_par (i := 8) (j := 9) (by rfl) sc__law_loose_right.nd rfl rfl (by decide) rfl rfl (pa_cons (pe_callB (cr_sum rfl) (by rfl) (T.fr 27) (by decide +kernel) (pa_cons (pe_slice sl_list (pv 4) po_none (po_some (pv 6))) pa_nil)) (pa_cons (pe_op op_sub (pe_ix ix_list (pv 2) (pe_un un_neg pe_int) (fun _ _ => rfl)) (pe_callB (cr_sum rfl) (by rfl) (T.fr 27) (by decide +kernel) (pa_cons (pe_slice sl_list (pv 5) (po_some (pv 6)) po_none) pa_nil))) pa_nil)) (by rfl))
      (pss_cons (ps_asg (pe_callB (call_min3Nu rfl) (by rfl) (T.fr 28) (by decide +kernel) (pa_cons (pe_ix ix_list (pv 2) (pe_op op_sub (pv 6) pe_int) (fun _ _ => rfl)) (pa_cons (pv 8) (pa_cons (pv 9) pa_nil)))) (pg_sub (pv 2) (pe_op op_sub (pv 6) pe_int) set_list))
      (pss_cons (ps_if (pt_cmpR (op_neP (k_Plan___eq__ T) (T.findB 41) (T.mroI 42) (hr.mono (by decide))) (pe_m (pv 7) (k_Plan_loosened T) hr (pa_cons (pv 6) (pa_cons pe_str pa_nil))) (pe_mk (k_Plan___init__ T) (T.glo 21) hr (pa_cons (pv 2) (pa_cons (pv 3) (pa_cons (pv 4) (pa_cons (pv 5) pa_nil))))) (nomark _)) (pss_one (ps_ret pe_bl)) pss_nil)
      (pss_cons (ps_asg (pe_ix ix_list (pe_ix ix_tup (pv 1) pe_int (fun _ _ => rfl)) (pe_op op_sub (pv 6) pe_int) (fun _ _ => rfl)) (pg_sub (pv 2) (pe_op op_sub (pv 6) pe_int) set_list))
      (pss_cons (ps_par (i := 8) (j := 9) (by rfl) sc__law_loose_right.nd rfl rfl (by decide) rfl rfl (pa_cons (pe_callB (cr_sum rfl) (by rfl) (T.fr 27) (by decide +kernel) (pa_cons (pe_slice sl_list (pv 5) po_none (po_some (pv 6))) pa_nil)) (pa_cons (pe_op op_sub (pe_ix ix_list (pv 2) (pe_un un_neg pe_int) (fun _ _ => rfl)) (pe_callB (cr_sum rfl) (by rfl) (T.fr 27) (by decide +kernel) (pa_cons (pe_slice sl_list (pv 4) (po_some (pv 6)) po_none) pa_nil))) pa_nil)) (by rfl))
      (pss_cons (ps_asg (pe_callB (call_max3Nu rfl) (by rfl) (T.fr 26) (by decide +kernel) (pa_cons (pe_ix ix_list (pv 3) (pe_op op_sub (pv 6) pe_int) (fun _ _ => rfl)) (pa_cons (pv 8) (pa_cons (pv 9) pa_nil)))) (pg_sub (pv 3) (pe_op op_sub (pv 6) pe_int) set_list))
      (pss_one (ps_ret (pe_and (pe_cmpR (op_eqP (k_Plan___eq__ T) (hr.mono (by decide))) (pe_mK (pv 7) (k_Plan_loosened T) hr (kb_Plan_loosened_side_time) (kr_Plan_loosened_side_time) (pk_cons pe_str (pk_cons (pv 6) pk_nil))) (pe_mk (k_Plan___init__ T) (T.glo 21) hr (pa_cons (pv 2) (pa_cons (pv 3) (pa_cons (pv 4) (pa_cons (pv 5) pa_nil))))) (nomark _)) (pe_one (pe_cmpR (op_eqP (k_Plan___eq__ T) (hr.mono (by decide))) (pv 7) (pe_f (k__law_heap T) hr (pa_cons (pv 1) pa_nil)) (nomark _))))))))))))))), ?_⟩
    walk_at "ev0"
    refine lc_lists (walk_tup (xs := [.ref l1, .ref l2, .ref l3, .ref l4])) (fun i => [d.L, d.U, d.A, d.B].getD i []) (show 4 ≤ 1000 by decide) (fun H' e => SqT.of (e _ _ nin h0)) (fun i H' x H'' y => y.1) (fun i x H' R hi e y kR => ?_) (fun D M H1 e z => ?_)
    · obtain ⟨a, ns, rfl, ha, hl, hg⟩ := four i x y.2
      rw [hg] at kR
      have ga := e _ _ nin ha
      walk_at "ev"
      refine ⟨rfl, ?_⟩
      walk_at "ev"
      intro l hl
      exact kR l _ ((Fr.refl _).new hl) hl upd_same
    obtain ⟨m1, m2, m3, m4, z1⟩ : ∃ m1 m2 m3 m4, ZJ H H1 j (n + 1) [(2, D, .lst [.ref m1, .ref m2, .ref m3, .ref m4]), (2, m4, .lst (d.B.map V.int)), (2, m3, .lst (d.A.map V.int)), (2, m2, .lst (d.U.map V.int)), (2, m1, .lst (d.L.map V.int))] ∧ M.reverse.map (fun q => V.ref q.1) = [.ref m1, .ref m2, .ref m3, .ref m4] := by
      match M, e with
      | [(m4, n4), (m3, n3), (m2, n2), (m1, n1)], e =>
        have e4 : n4 = d.B := (List.cons.inj e).1
        have e3 : n3 = d.A := (List.cons.inj (List.cons.inj e).2).1
        have e2 : n2 = d.U := (List.cons.inj (List.cons.inj (List.cons.inj e).2).2).1
        have e1 : n1 = d.L := (List.cons.inj (List.cons.inj (List.cons.inj (List.cons.inj e).2).2).2).1
        subst e1 e2 e3 e4
        have z' : Z H H1 [(2, D, .lst [.ref m1, .ref m2, .ref m3, .ref m4]), (2, m4, .lst (d.B.map V.int)), (2, m3, .lst (d.A.map V.int)), (2, m2, .lst (d.U.map V.int)), (2, m1, .lst (d.L.map V.int))] := z
        exact ⟨m1, m2, m3, m4, (ZJ.start hj).call0 (N := [(D, .lst [.ref m1, .ref m2, .ref m3, .ref m4]), (m4, .lst (d.B.map V.int)), (m3, .lst (d.A.map V.int)), (m2, .lst (d.U.map V.int)), (m1, .lst (d.L.map V.int))]) (z'.fr0 (by simp)) (z'.made (List.Sublist.refl _)), rfl⟩
    obtain ⟨z1, em⟩ := z1
    clear z e
    walk_at "ev"
    have hlen : (d.L.map V.int).length = d.L.length := List.length_map _
    refine ⟨j, _, n, rfl, z1.jar, by omega, by omega, fun v2 H2 a2 b2 f2 q2 => ?_⟩
    obtain ⟨g, rfl⟩ := Int.eq_ofNat_of_zero_le a2
    have z2 := z1.dips f2 q2
    walk_at "ev"
    rw [show (1 : Int) + (g : Int) = ((1 + g : Nat) : Int) by omega]
    obtain ⟨t, ht⟩ : ∃ t, t = 1 + g := ⟨_, rfl⟩
    rw [← ht]
    have t1 : 1 ≤ t := by omega
    have t2 : t < d.L.length := by omega
    have raw2 := (ra0.mono z2.fr).nil
    refine ⟨r, true, d, rfl, raw2, ok, fun p H3 f3 n3 => ?_⟩
    have pd := n3.at
    have z3 := z2.same f3
    walk_at "ev"
    rw [cut_uptoN (by omega)]
    intro s4 k4
    have z4 := z3.alloc (.lst ((d.A.take t).map V.int)) k4
    walk_at "ev"
    refine r_at (atI_end (by omega)) ?_
    walk_at "ev"
    rw [cut_fromN (by omega)]
    intro s5 k5
    have z5 := z4.alloc (.lst ((d.B.drop t).map V.int)) k5
    walk_at "ev"
    refine r_at (atN1 t1 (by omega)) ?_
    walk_at "ev"
    refine r_min3 rfl ?_
    walk_at "ev"
    refine r_ixn (ixN_m1 t1 (by omega)) ?_
    have z6 := z5.set 6 (.lst ((d.L.map V.int).set (t - 1) (.int (min (min (nth d.L (t - 1)) (d.A.take t).sum) (nth d.L (d.L.length - 1) - (d.B.drop t).sum))))) rfl
    change ZJ H _ _ _ _ at z6
    have ex2 : ∀ x ∈ [m1, m2], ∃ o, H2 x = some o := fun x m => by
      rcases List.mem_cons.mp m with e | m
      · exact ⟨_, by rw [e]; exact z2.get (.tail _ (.tail _ (.tail _ (.tail _ (.head _)))))⟩
      · rw [List.mem_singleton.mp m]
        exact ⟨_, z2.get (.tail _ (.tail _ (.tail _ (.head _))))⟩
    have f6 : Fr [m1, m2] H3 _ := (((Fr.refl H3).new (o := .lst ((d.A.take t).map V.int)) k4).new (o := .lst ((d.B.drop t).map V.int)) k5).set (p := m1)
      (o := .lst ((d.L.map V.int).set (t - 1) (.int (min (min (nth d.L (t - 1)) (d.A.take t).sum) (nth d.L (d.L.length - 1) - (d.B.drop t).sum))))) (.head _)
    have pd6 := ((n3.2 _ ex2).mono f6)
    walk_at "ev"
    refine r_planM pd6.nil ?nn ?_; (case nn => constructor)
    walk_at "ev"
    refine ⟨p, d, t, false, rfl, pd6.nil, ok, ⟨t1, t2⟩, fun q7 H7 f7 n7 => ?_⟩
    replace n7 : NewP K _ H7 q7 (d.looseL t) := n7
    have z7 := z6.same f7
    walk_at "ev"
    refine r_planA (d := d.looseL t) (ok.looseL t1 t2) ((z7.get (.tail _ (.tail _ (.tail _ (.tail _ (.tail _ (.tail _ (.head _)))))))).trans (by rw [← List.map_set] <;> rfl)) (z7.get (.tail _ (.tail _ (.tail _ (.tail _ (.tail _ (.head _))))))) (z7.get (.tail _ (.tail _ (.tail _ (.tail _ (.head _)))))) (z7.get (.tail _ (.tail _ (.tail _ (.head _))))) fun q8 H8 f8 n8 => ?_
    have z8 := z7.same f8
    refine r_neP (n7.at.mono f8) n8.at ?_
    rw [decide_eq_true rfl]
    walk_at "ev"
    have i0 := z8.keep h0 e0
    have i1 := z8.keep h1 e1
    walk_at "ev"
    refine r_at (atN1 t1 (by omega)) ?_
    walk_at "ev"
    refine r_ixn (ixN_m1 t1 (by rw [List.length_set]; omega)) ?_
    have z9a := z8.set 6 (.lst (((d.L.map V.int).set (t - 1) (.int (min (min (nth d.L (t - 1)) (d.A.take t).sum) (nth d.L (d.L.length - 1) - (d.B.drop t).sum)))).set (t - 1) (.int (nth d.L (t - 1))))) rfl
    rw [set_back] at z9a ⊢
    have z9 : ZJ H _ j n [(2, m4, .lst (d.B.map V.int)), (2, m3, .lst (d.A.map V.int)), (2, m2, .lst (d.U.map V.int)), (2, m1, .lst (d.L.map V.int))] := z9a.sel [3, 4, 5, 6] rfl
    clear z9a
    have f9 : Fr [m1, m2] H3 _ := (f6.trans (f7.trans f8).up0).set (p := m1) (o := .lst (d.L.map V.int)) (.head _)
    clear z8 z7 z6 z5 z4 z3 z2 i0 i1
    walk_at "ev"
    rw [cut_uptoN (by omega)]
    intro s10 k10
    have z10 := z9.alloc (.lst ((d.B.take t).map V.int)) k10
    walk_at "ev"
    refine r_at (atI_end (by omega)) ?_
    walk_at "ev"
    rw [cut_fromN (by omega)]
    intro s11 k11
    have z11 := z10.alloc (.lst ((d.A.drop t).map V.int)) k11
    walk_at "ev"
    refine r_at (atN1 t1 (by omega)) ?_
    walk_at "ev"
    refine r_max3 rfl ?_
    walk_at "ev"
    refine r_ixn (ixN_m1 t1 (by rw [List.length_map]; omega)) ?_
    have z12 := z11.set 4 (.lst ((d.U.map V.int).set (t - 1) (.int (max (max (nth d.U (t - 1)) (d.B.take t).sum) (nth d.L (d.L.length - 1) - (d.A.drop t).sum))))) rfl
    change ZJ H _ _ _ _ at z12
    have f12 : Fr [m1, m2] H3 _ := ((f9.new (o := .lst ((d.B.take t).map V.int)) k10).new (o := .lst ((d.A.drop t).map V.int)) k11).set (p := m2)
      (o := .lst ((d.U.map V.int).set (t - 1) (.int (max (max (nth d.U (t - 1)) (d.B.take t).sum) (nth d.L (d.L.length - 1) - (d.A.drop t).sum))))) (.tail _ (.head _))
    have pd12 := ((n3.2 _ ex2).mono f12)
    walk_at "ev"
    refine r_planM pd12.nil ?nn ?_; (case nn => constructor)
    walk_at "ev"
    refine ⟨rfl, ?_⟩
    refine ⟨p, d, t, true, rfl, pd12.nil, ok, ⟨t1, t2⟩, fun q13 H13 f13 n13 => ?_⟩
    replace n13 : NewP K _ H13 q13 (d.looseU t) := n13
    have z13 := z12.same f13
    walk_at "ev"
    refine r_planA (d := d.looseU t) (ok.looseU t1 t2) (z13.get (.tail _ (.tail _ (.tail _ (.tail _ (.tail _ (.head _))))))) ((z13.get (.tail _ (.tail _ (.tail _ (.tail _ (.head _)))))).trans (by rw [← List.map_set] <;> rfl)) (z13.get (.tail _ (.tail _ (.tail _ (.head _))))) (z13.get (.tail _ (.tail _ (.head _)))) fun q14 H14 f14 n14 => ?_
    have z14 := z13.same f14
    refine r_eqP (n13.at.mono f14) n14.at ?_
    rw [decide_eq_true rfl]
    walk_at "ev"
    refine ⟨r, true, d, rfl, (ra0.mono z14.fr).nil, ok, fun q15 H15 f15 n15 => ?_⟩
    walk_at "ev"
    refine r_eqP (pd12.nil.mono ((f13.trans f14).trans f15)) n15.at ?_
    rw [decide_eq_true rfl]
    exact k _ (z14.fr.trans f15.up0) (z14.jar.fr f15)
end

set_option Elab.async false
set_option linter.all false
set_option maxRecDepth 100000
set_option maxHeartbeats 4000000
set_option exponentiation.threshold 2000

def told0 : PD := ⟨[2, 2, 9, 10], [6, 6, 13, 10], [0, 0, 0, 0], [9, 9, 9, 9]⟩
theorem told0_ok : told0.Ok := ⟨by decide, by decide, by decide, by decide, by decide, by decide, by decide, by decide⟩
theorem told0_part : told0.part 1 3 4 9 = ⟨[-2, 5], [2, 5], [0, 0], [9, 9]⟩ := by decide
theorem told0_loose : told0.looseL 3 = ⟨[2, 2, 0, 10], [6, 6, 13, 10], [0, 0, 0, 0], [9, 9, 9, 9]⟩ := by decide
section
variable {P : Program} {w : World} {K : PySem.W.Frag} {mg : Str → Option Value} {base : Heap}
/-- a pair of bounds that lies -/
def PairAt (j : Addr) (H : Hp) (p : Addr) : Prop := ∃ (r s : Addr) (d e : PD), H p = some (.tup [.ref r, .ref s]) ∧ p ≠ j ∧ RawAt [j] H true r d ∧ RawAt [j] H true s e ∧ d.Ok ∧ e.Ok ∧ d.L.length + e.L.length ≤ 200 ∧ ∀ i, i < d.L.length → nth d.U i - nth d.L i ≤ 2 ^ 160
theorem PairAt.mono {j : Addr} {H H' : Hp} {p : Addr} (h : PairAt j H p) (f : Fr [j] H H') : PairAt j H' p := by
  obtain ⟨r, s, d, e, h0, n, ra, rb, x⟩ := h
  exact ⟨r, s, d, e, f _ _ (by simpa using n) h0, n, ra.mono f, rb.mono f, x⟩
def sp_law (K : PySem.W.Frag) : Sp := fun vs H Q _ => ∃ (a : Addr) (ns : List Int), vs = [.ref a] ∧ SqL K H a (ns.map V.int) ∧ ns.length ≤ 63 ∧ ∀ H', Q (.bl true) H'
theorem k_law (T : Tx fa fn K mg base) : Fk P w K mg base "law" ["script"] 7 (sp_law K) s_law "law" := by
  refine T.fk 26 44 (q := "law") (st := s_law) sc_law (fun _ _ _ _ _ _ us hl => match us, hl with | [_], _ => rfl) (fun vs H Q E h => ?_) (fun cdv A outer s H vs Q E hr h => ?_)
  · obtain ⟨a, ns, rfl, _⟩ := h
    rfl
  · obtain ⟨a, ns, rfl, hs, hl, k⟩ := h
    have hlen : (ns.map V.int).length = ns.length := List.length_map _
    refine ⟨_, (pss_cons (ps_for PassesOwn.never rfl (pi_range1 (by rfl) (T.fr 34) (pa_cons (pe_callB (call_max2 rfl) (by rfl) (T.fr 26) (by decide +kernel) (pa_cons pe_int (pa_cons (pe_callB (call_min2 rfl) (by rfl) (T.fr 28) (by decide +kernel) (pa_cons pe_int (pa_cons (pe_callB call_len_seq (by rfl) (T.fr 6) (by decide +kernel) (pa_cons (pv 0) pa_nil)) pa_nil))) pa_nil))) pa_nil)) (pg_name (i := 1) sc_law.nd rfl (by first | exact Or.inl rfl | exact Or.inr rfl)) (pss_cons (ps_set (i := 2) sc_law.nd rfl (by first | exact Or.inl rfl | exact Or.inr rfl) (pe_f (k__law_jar T) hr (pa_cons (pv 0) (pa_cons (pv 1) pa_nil))))
      (pss_one (ps_for PassesOwn.never rfl (pi_list (pe_lst (pa_cons (pe_tup (pa_cons (pe_f (k__law_small T) hr (pa_cons (pv 2) (pa_cons pe_int pa_nil))) (pa_cons (pe_f (k__law_small T) hr (pa_cons (pv 2) (pa_cons pe_int pa_nil))) pa_nil))) (pa_cons (pe_tup (pa_cons (pe_f (k__law_great T) hr (pa_cons (pv 2) (pa_cons pe_int pa_nil))) (pa_cons (pe_f (k__law_great T) hr (pa_cons (pv 2) (pa_cons pe_int pa_nil))) pa_nil))) pa_nil)))) (pg_tup rfl (pgs_cons (pg_name (i := 3) sc_law.nd rfl (by first | exact Or.inl rfl | exact Or.inr rfl)) (pgs_cons (pg_name (i := 4) sc_law.nd rfl (by first | exact Or.inl rfl | exact Or.inr rfl)) pgs_nil))) (pss_cons (ps_set (i := 5) sc_law.nd rfl (by first | exact Or.inl rfl | exact Or.inr rfl) (pe_mK (pe_f (k__law_heap T) hr (pa_cons (pv 3) pa_nil)) (k_Plan_joined T) hr (kb_Plan_joined_other) (kr_Plan_joined_other) (pk_cons (pe_f (k__law_heap T) hr (pa_cons (pv 4) pa_nil)) pk_nil)))
      (pss_cons (ps_if (PW.pt (pw_or (pt_cmpR (op_neP (k_Plan___eq__ T) (T.findB 41) (T.mroI 42) (hr.mono (by decide))) (pv 5) (pe_f (k__law_heap T) hr (pa_cons (pe_f (k__law_joined T) hr (pa_cons (pv 3) (pa_cons (pv 4) pa_nil))) pa_nil)) (nomark _)) (pw_or1 (pt_cmpR op_ne (pe_callB (cr_lenP (k_Plan___len__ T) (hr.mono (by decide))) (by rfl) (T.fr 6) (by decide +kernel) (pa_cons (pv 5) pa_nil)) (pe_op op_add (pe_callB call_len_seq (by rfl) (T.fr 6) (by decide +kernel) (pa_cons (pe_ix ix_tup (pv 3) pe_int (fun _ _ => rfl)) pa_nil)) (pe_callB call_len_seq (by rfl) (T.fr 6) (by decide +kernel) (pa_cons (pe_ix ix_tup (pv 4) pe_int (fun _ _ => rfl)) pa_nil))) (nomark _))))) (pss_one (ps_ret pe_bl)) pss_nil)
      (pss_cons (ps_if (PW.pt (pw_or (pt_not (pt_val (pe_f (k__law_part_right T) hr (pa_cons (pv 2) (pa_cons (pv 3) pa_nil))))) (pw_or1 (pt_not (pt_val (pe_f (k__law_part_right T) hr (pa_cons (pv 2) (pa_cons (pv 3) pa_nil)))))))) (pss_one (ps_ret pe_bl)) pss_nil)
      (pss_one (ps_if (PW.pt (pw_and (pt_cmpR op_gt (pe_callB call_len_seq (by rfl) (T.fr 6) (by decide +kernel) (pa_cons (pe_ix ix_tup (pv 3) pe_int (fun _ _ => rfl)) pa_nil)) pe_int (nomark _)) (pw_and1 (pt_not (pt_val (pe_f (k__law_loose_right T) hr (pa_cons (pv 2) (pa_cons (pv 3) pa_nil)))))))) (pss_one (ps_ret pe_bl)) pss_nil)))))))))
      (pss_cons (ps_set (i := 5) sc_law.nd rfl (by first | exact Or.inl rfl | exact Or.inr rfl) (pe_mk (k_Plan___init__ T) (T.glo 21) hr (pa_cons (pe_lst (pa_cons pe_int (pa_cons pe_int (pa_cons pe_int (pa_cons pe_int pa_nil))))) (pa_cons (pe_lst (pa_cons pe_int (pa_cons pe_int (pa_cons pe_int (pa_cons pe_int pa_nil))))) (pa_cons (pe_lst (pa_cons pe_int (pa_cons pe_int (pa_cons pe_int (pa_cons pe_int pa_nil))))) (pa_cons (pe_lst (pa_cons pe_int (pa_cons pe_int (pa_cons pe_int (pa_cons pe_int pa_nil))))) pa_nil))))))
      (pss_cons (ps_set (i := 6) sc_law.nd rfl (by first | exact Or.inl rfl | exact Or.inr rfl) (pe_lst (pa_cons (pe_pr (pe_m (pv 5) (k_Plan_part T) hr (pa_cons pe_int (pa_cons pe_int (pa_cons pe_int (pa_cons pe_int pa_nil))))) (k_Plan_low T) hr) (pa_cons (pe_pr (pe_m (pv 5) (k_Plan_part T) hr (pa_cons pe_int (pa_cons pe_int (pa_cons pe_int (pa_cons pe_int pa_nil))))) (k_Plan_high T) hr) (pa_cons (pe_pr (pe_m (pv 5) (k_Plan_loosened T) hr (pa_cons pe_int (pa_cons pe_str pa_nil))) (k_Plan_low T) hr) pa_nil)))))
      (pss_one (ps_ret (pe_cmpR (op_eqD hr.units) (pv 6) (pe_lst (pa_cons (pe_lst (pa_cons (pe_un un_neg pe_int) (pa_cons pe_int pa_nil))) (pa_cons (pe_lst (pa_cons pe_int (pa_cons pe_int pa_nil))) (pa_cons (pe_lst (pa_cons pe_int (pa_cons pe_int (pa_cons pe_int (pa_cons pe_int pa_nil))))) pa_nil)))) (nomark _))))))), ?_⟩
    walk_at "ev0"
    refine ⟨by split <;> split <;> omega, by split <;> split <;> omega, ?_⟩
    have five : (if (1 : Int) < (if ((ns.map V.int).length : Int) < 5 then ((ns.map V.int).length : Int) else 5) then (if ((ns.map V.int).length : Int) < 5 then ((ns.map V.int).length : Int) else 5) else 1).toNat ≤ 5 := by
      split <;> split <;> omega
    refine for_it (walk_range (lo := 0)) (fun i σ H' => ∃ u1 u2 u3 u4 u5 : Option V, σ = [some (.ref a), u1, u2, u3, u4, u5, none] ∧ Fr [] H H') ⟨none, none, none, none, none, rfl, Fr.refl H⟩ (fun _ _ _ _ _ => trivial) (fun i x σ H1 H1' hi p y => ?_) (fun σ H1 p => ?_)
    · obtain ⟨u1, u2, u3, u4, u5, rfl, f1⟩ := p
      obtain ⟨rfl, rfl⟩ := y
      have hi' : i < 5 := Nat.lt_of_lt_of_le hi five
      walk_at "ev"
      refine ⟨a, ns, _, rfl, f1.sql hs nin, ⟨by omega, by omega⟩, fun j H2 hj f2 J2 => ?_⟩
      have hj0 : H j = none := by
        cases e : H j with
        | none => rfl
        | some o =>
          rw [f1 _ _ nin e] at hj
          cases hj
      have jex : ∀ {Hx : Hp} {n : Nat}, JarAt Hx j n → ∀ x ∈ [j], ∃ o, Hx x = some o := fun J x m => by
        rw [List.mem_singleton.mp m]
        exact J.some
      walk_at "ev"
      refine ⟨j, 6, 900000, rfl, J2.le (by decide), by decide, fun t3 a3 b3 c3 g3 d3 m3 H3 f3 J3 w3 r3 s3 => ?_⟩
      have ra3 := w3.raw (jex J2)
      walk_at "ev"
      refine ⟨j, 6, 800000, rfl, J3.le (by decide), by decide, fun t4 a4 b4 c4 g4 d4 m4 H4 f4 J4 w4 r4 s4 => ?_⟩
      have ra4 := w4.raw (jex J3)
      walk_at "ev"
      intro p5 k5
      have np5 := J4.ne k5
      have J5 : JarAt _ j 800000 := J4.fr ((Fr.refl _).new (o := .tup [.ref t3, .ref t4]) k5)
      have F5 : Fr [j] H4 _ := (Fr.refl _).new (o := .tup [.ref t3, .ref t4]) k5
      have P5 : PairAt j _ p5 := ⟨t3, t4, d3, d4, upd_same, np5, (ra3.mono f4).mono F5, ra4.mono F5, r3.ok (by omega) (by omega), r4.ok (by omega) (by omega), by have := r3.lL; have := r4.lL; omega, fun i hi => r3.w i (by have := r3.lL; omega)⟩
      generalize upd H4 p5 (.tup [.ref t3, .ref t4]) = H5 at J5 F5 P5 ⊢
      walk_at "ev"
      refine ⟨j, 60, 700000, rfl, J5.le (by decide), by decide, fun t6 a6 b6 c6 g6 d6 m6 H6 f6 J6 w6 r6 s6 => ?_⟩
      have ra6 := w6.raw (jex J5)
      walk_at "ev"
      refine ⟨j, 60, 600000, rfl, J6.le (by decide), by decide, fun t7 a7 b7 c7 g7 d7 m7 H7 f7 J7 w7 r7 s7 => ?_⟩
      have ra7 := w7.raw (jex J6)
      walk_at "ev"
      intro p8 k8
      have np8 := J7.ne k8
      have J8 : JarAt _ j 600000 := J7.fr ((Fr.refl _).new (o := .tup [.ref t6, .ref t7]) k8)
      have F8 : Fr [j] H7 _ := (Fr.refl _).new (o := .tup [.ref t6, .ref t7]) k8
      have P8 : PairAt j _ p8 := ⟨t6, t7, d6, d7, upd_same, np8, (ra6.mono f7).mono F8, ra7.mono F8, r6.ok (by omega) (by omega), r7.ok (by omega) (by omega), by have := r6.lL; have := r7.lL; omega, fun i hi => r6.w i (by have := r6.lL; omega)⟩
      have P5' : PairAt j _ p5 := ((P5.mono f6).mono f7).mono F8
      have G8 : Fr [j] H2 _ := (((((f3.trans f4).trans F5).trans f6).trans f7).trans F8)
      generalize upd H7 p8 (.tup [.ref t6, .ref t7]) = H8 at J8 F8 P8 P5' G8 ⊢
      clear ra3 ra4 ra6 ra7 P5 f3 f4 F5 f6 f7 F8 J3 J4 J5 J6 J7 w3 w4 w6 w7 r3 r4 r6 r7 s3 s4 s6 s7 np5 np8 k5 k8
      walk_at "ev"
      intro q9 k9
      have nq9 := J8.ne k9
      have F9 : Fr [j] H8 _ := (Fr.refl _).new (o := .lst [.ref p5, .ref p8]) k9
      have J9 : JarAt _ j 600000 := J8.fr ((Fr.refl _).new (o := .lst [.ref p5, .ref p8]) k9)
      have h9 : (upd H8 q9 (.lst [.ref p5, .ref p8])) q9 = some (.lst [.ref p5, .ref p8]) := upd_same
      have P8' := P8.mono F9
      have P5' := P5'.mono F9
      have G9 := G8.trans F9
      generalize upd H8 q9 (.lst [.ref p5, .ref p8]) = H9 at J9 F9 P8' P5' G9 h9 ⊢
      clear P8 G8 F9 J8 k9
      have per : ∀ (i : Nat) (x : V), [V.ref p5, V.ref p8][i]? = some x → ∃ p, x = .ref p ∧ PairAt j H9 p := fun i x h => match i, h with
        | 0, h => ⟨p5, (Option.some.inj h).symm, P5'⟩
        | 1, h => ⟨p8, (Option.some.inj h).symm, P8'⟩
      walk_at "ev"
      refine for_it (walk_list (xs := [.ref p5, .ref p8])) (fun i2 σ H' => ∃ u3 u4 u5 : Option V, σ = [some (.ref a), some (.int (0 + (i : Int))), some (.ref j), u3, u4, u5, none] ∧ Fr [j] H9 H' ∧ JarAt H' j (500000 + 10000 * (2 - i2))) ⟨u3, u4, u5, rfl, Fr.refl _, J9.le (by decide)⟩
        (fun i2 σ H' _ p => by obtain ⟨_, _, _, _, f, _⟩ := p; exact SqL.of (f _ _ (by simpa using nq9) h9)) (fun i2 x σ H10 H10' hi2 p y => ?_) (fun σ H10 p => ?_)
      · obtain ⟨u3, u4, u5, rfl, f10, J10⟩ := p
        obtain ⟨rfl, hx⟩ := y
        obtain ⟨p, rfl, pr⟩ := per _ _ hx
        replace hi2 : i2 < 2 := hi2
        obtain ⟨r, s, d, e, hp, np, ra, rb, ok, ok', hl2, nw⟩ := pr.mono f10
        walk_at "ev"
        refine ⟨r, true, d, rfl, ra.nil, ok, fun p11 H11 f11 n11 => ?_⟩
        walk_at "ev"
        refine r_planM n11.at ?nn ?_; (case nn => constructor)
        walk_at "ev"
        refine ⟨s, true, e, rfl, (rb.mono f11.up0).nil, ok', fun p12 H12 f12 n12 => ?_⟩
        walk_at "ev"
        refine ⟨rfl, ?_⟩
        refine ⟨p11, p12, d, e, rfl, n11.at.mono f12, n12.at, ok, ok', hl2, fun p13 H13 f13 n13 => ?_⟩
        walk_at "ev"
        have f103 := (f11.trans f12).trans f13
        refine ⟨r, s, d, e, rfl, (ra.mono f103.up0).nil, (rb.mono f103.up0).nil, ok, ok', fun r14 H14 f14 m14 => ?_⟩
        walk_at "ev"
        refine ⟨r14, true, d.joined e, rfl, m14 [] (fun _ z => nomatch z), ok.joined ok' hl2, fun p15 H15 f15 n15 => ?_⟩
        walk_at "ev"
        refine r_neP (n13.at.mono (f14.trans f15)) n15.at ?_
        rw [decide_eq_true rfl]
        walk_at "ev"
        have f105 := (f103.trans f14).trans f15
        have oj := ok.joined ok' hl2
        refine r_lenD (n13.at.mono (f14.trans f15)) (by have := oj.most; omega) ?_
        obtain ⟨l1, l2, l3, l4, h0, ⟨h1, _⟩, _⟩ := (ra.mono f105.up0).ex
        have h0 : H15 r = some (.tup [.ref l1, .ref l2, .ref l3, .ref l4]) := h0
        obtain ⟨m1, m2, m3, m4, g0, ⟨g1, _⟩, _⟩ := (rb.mono f105.up0).ex
        have g0 : H15 s = some (.tup [.ref m1, .ref m2, .ref m3, .ref m4]) := g0
        walk_at "ev"
        have el : ((d.joined e).L.length : Int) = ((d.L.map V.int).length : Int) + ((e.L.map V.int).length : Int) := by
          simp [PD.joined]
        rw [el, decide_eq_true rfl]
        walk_at "ev"
        have J15 := J10.fr f105
        refine ⟨j, r, d, 500000 + 10000 * (2 - i2) - 6, rfl, ra.mono f105.up0, ok, nw, J15.le (by omega), fun H16 f16 J16 => ?_⟩
        walk_at "ev"
        refine ⟨j, r, d, 500000 + 10000 * (2 - i2) - 12, rfl, (ra.mono f105.up0).mono f16, ok, nw, J16.le (by omega), fun H17 f17 J17 => ?_⟩
        walk_at "ev"
        have F17 := (f105.up0.trans f16).trans f17
        have ra17 := ra.mono F17
        obtain ⟨l1, l2, l3, l4, h0, ⟨h1, _⟩, _⟩ := ra17.ex
        have h0 : H17 r = some (.tup [.ref l1, .ref l2, .ref l3, .ref l4]) := h0
        have hL : (d.L.map V.int).length = d.L.length := List.length_map _
        walk_at "ev"
        refine r_ite (fun c => ?_) (fun c => ?_)
        · walk_at "ev"
          refine ⟨j, r, d, 500000 + 10000 * (2 - i2) - 13, rfl, ra17, ok, by omega, J17.le (by omega), fun H18 f18 J18 => ?_⟩
          walk_at "ev"
          exact ⟨_, _, _, rfl, f10.trans (F17.trans f18), J18.le (by omega)⟩
        · walk_at "ev"
          exact ⟨_, _, _, rfl, f10.trans F17, J17.le (by omega)⟩
      · obtain ⟨u3, u4, u5, rfl, f10, _⟩ := p
        exact ⟨_, _, _, _, _, rfl, (f1.trans f2).drop (G9.trans f10) hj0⟩
    · obtain ⟨u1, u2, u3, u4, u5, rfl, f1⟩ := p
      walk_at "ev"
      intro p1 k1
      have z1 := (Z.start0 H1).alloc (.lst [.int 2, .int 2, .int 9, .int 10]) k1
      walk_at "ev"
      intro p2 k2
      have z2 := z1.alloc (.lst [.int 6, .int 6, .int 13, .int 10]) k2
      walk_at "ev"
      intro p3 k3
      have z3 := z2.alloc (.lst [.int 0, .int 0, .int 0, .int 0]) k3
      walk_at "ev"
      intro p4 k4
      have z4 := z3.alloc (.lst [.int 9, .int 9, .int 9, .int 9]) k4
      walk_at "ev"
      refine r_planA (d := told0) told0_ok (z4.get (.tail _ (.tail _ (.tail _ (.head _))))) (z4.get (.tail _ (.tail _ (.head _)))) (z4.get (.tail _ (.head _))) (z4.get (.head _)) fun q H5 f5 n5 => ?_
      have pq := n5.at
      clear f5 n5 z4 z3 z2 z1 k4 k3 k2 k1
      walk_at "ev"
      refine r_planM pq ?nn ?_; (case nn => constructor)
      walk_at "ev"
      refine ⟨q, told0, 1, 3, 4, 9, rfl, pq, told0_ok, by decide, by decide, by decide, fun t6 H6 f6 n6 => ?_⟩
      rw [told0_part] at n6
      have z6 := Z.start0 H6
      obtain ⟨dx, m1, m2, m3, m4, g0, _⟩ := n6.at.ex
      refine r_exp g0 ⟨t6, _, rfl, n6.at, fun s1 k1 => ?_⟩
      have z7 := z6.alloc (.lst (([-2, 5] : List Int).map V.int)) k1
      walk_at "ev"
      have pq7 := pq.mono (f6.trans (z7.fr0 (by simp)))
      refine r_planM pq7 ?nn ?_; (case nn => constructor)
      walk_at "ev"
      refine ⟨q, told0, 1, 3, 4, 9, rfl, pq7, told0_ok, by decide, by decide, by decide, fun t8 H8 f8 n8 => ?_⟩
      rw [told0_part] at n8
      have z8 := z7.same f8
      obtain ⟨dx, m1, m2, m3, m4, g0, _⟩ := n8.at.ex
      refine r_exp g0 ⟨t8, _, rfl, n8.at, fun s2 k2 => ?_⟩
      have z9 := z8.alloc (.lst (([2, 5] : List Int).map V.int)) k2
      walk_at "ev"
      have pq9 := pq.mono (f6.trans (z9.fr0 (by simp)))
      refine r_planM pq9 ?nn ?_; (case nn => constructor)
      walk_at "ev"
      refine ⟨q, told0, 3, false, rfl, pq9, told0_ok, by decide, fun t10 H10 f10 n10 => ?_⟩
      replace n10 : NewP K _ H10 t10 (told0.looseL 3) := n10
      rw [told0_loose] at n10
      have z10 := z9.same f10
      obtain ⟨dx, m1, m2, m3, m4, g0, _⟩ := n10.at.ex
      refine r_exp g0 ⟨t10, _, rfl, n10.at, fun s3 k3 => ?_⟩
      have z11 := z10.alloc (.lst (([2, 2, 0, 10] : List Int).map V.int)) k3
      walk_at "ev"
      intro s4 k4
      have z12 := z11.alloc (.lst [.ref s1, .ref s2, .ref s3]) k4
      walk_at "ev"
      intro s5 k5
      have z13 := z12.alloc (.lst (([-2, 5] : List Int).map V.int)) k5
      walk_at "ev"
      intro s6 k6
      have z14 := z13.alloc (.lst (([2, 5] : List Int).map V.int)) k6
      walk_at "ev"
      intro s7 k7
      have z15 := z14.alloc (.lst (([2, 2, 0, 10] : List Int).map V.int)) k7
      walk_at "ev"
      intro s8 k8
      have z16 := z15.alloc (.lst [.ref s5, .ref s6, .ref s7]) k8
      refine r_eqLL (xs := [[-2, 5], [2, 5], [2, 2, 0, 10]]) (ys := [[-2, 5], [2, 5], [2, 2, 0, 10]]) (z16.get (.tail _ (.tail _ (.tail _ (.tail _ (.head _)))))) (z16.get (.head _))
        (.cons (z16.get (.tail _ (.tail _ (.tail _ (.tail _ (.tail _ (.tail _ (.tail _ (.head _))))))))) (.cons (z16.get (.tail _ (.tail _ (.tail _ (.tail _ (.tail _ (.tail _ (.head _)))))))) (.cons (z16.get (.tail _ (.tail _ (.tail _ (.tail _ (.tail _ (.head _))))))) .nil)))
        (.cons (z16.get (.tail _ (.tail _ (.tail _ (.head _))))) (.cons (z16.get (.tail _ (.tail _ (.head _)))) (.cons (z16.get (.tail _ (.head _))) .nil))) (by decide +kernel) (by decide +kernel) ?_
      rw [show (llD [[-2, 5], [2, 5], [2, 2, 0, 10]]).eqv (llD [[-2, 5], [2, 5], [2, 2, 0, 10]]) = true by decide +kernel]
      walk_at "ev"
      exact k _
end

set_option Elab.async false
set_option linter.all false
set_option maxRecDepth 100000
set_option maxHeartbeats 0
abbrev R : PySem.W.OpenRow := PySem.W.OpenLaw.row PySem.Challenge.rw_evenbits_k03_plans_joined_and_parted
abbrev hk : PySem.W.Hook := hookM 6 fa fn
def ob (s : PySem.W.SharedT) : He.AlD := obsMG 6 fa fn (HandSHeadRun.getT s)
theorem ob_eq (s : PySem.W.SharedT) : ob s = hk.obs s.abs := obsMG_eq (HandSHeadRun.getT_eq s)
theorem run (w : World) : HandSHeadRun.RunEq R (PySem.W.view R.prog [27]) hk ob 4000 ["_wall", "__name__", "MOST_TIMES", "is_whole", "is_between", "is_whole_list", "is_at_most", "EvenError", "InvalidPlan", "InvalidTime", "InvalidSide", "InvalidNumber", "Plan", "check_bound", "_law_jar", "_law_dip", "_law_around", "_law_small", "_law_great", "_law_heap", "_law_joined", "_law_between", "_law_part_right", "_law_loose_right"] w := by
  intro os
  kernel_rfl

set_option Elab.async false
set_option linter.all false
set_option maxRecDepth 100000
set_option maxHeartbeats 0
theorem law_facts {P : Program} {w : World} {K : PySem.W.Frag} {h : Heap} {mg : Str → Option Value} {f : Addr} (X : K.In h) (G : h.Ns mainGlobals mg) (hfa : mg ("law" : Str) = some (.ref f)) (c : SaysM fa fn K) :
    ∃ fd : FuncData, (∀ (s : Shared) (v : Value), BindsTo s fd ⟨[v], []⟩ [("script", v)]) ∧ ∀ base : Heap, K.In base → base.Ns mainGlobals mg → FnOk P w K mg base CX0 7 f fd ["script"] (sp_law K) := by
  obtain ⟨f0, fd0, F0, g0, _, b0, fu0⟩ := (k_law (P := P) (w := w) (⟨c, X, G⟩ : Tx fa fn K mg h)).ex
  obtain rfl : f0 = f := by
    have e := g0.symm.trans hfa
    cases e
    rfl
  have b := FunD.bindsA (ps := ["script"]) fu0 fun _ _ _ _ _ _ us hl => match us, hl with | [_], _ => rfl
  refine ⟨fd0, fun s v => b s [v] rfl, fun bs hX hG => ?_⟩
  obtain ⟨f1, fd1, F1, g1, _, _, fu1⟩ := (k_law (P := P) (w := w) (⟨c, hX, hG⟩ : Tx fa fn K mg bs)).ex
  obtain rfl : f1 = f0 := by
    have e := g1.symm.trans hfa
    cases e
    rfl
  obtain ⟨_, _, _, _, _, _, _, _, _, _, _, lk0, _⟩ := fu0.ex
  obtain ⟨_, _, _, _, _, _, _, _, _, _, _, lk1, _⟩ := fu1.ex
  obtain rfl : fd1 = fd0 := by
    have e := lk1.symm.trans lk0
    cases e
    rfl
  exact F1
end Ev
open PySem PySem.W PySem.Calls PyProof.Rows
theorem PySem.Challenge.cw_evenbits_k03_plans_joined_and_parted_holds : PySem.Challenge.rw_evenbits_k03_plans_joined_and_parted.Holds := by
  w_on; o_law
  refine HandSHeadRun.head_any (r := OpenLaw.row PySem.Challenge.rw_evenbits_k03_plans_joined_and_parted) (q := view (OpenLaw.row PySem.Challenge.rw_evenbits_k03_plans_joined_and_parted).prog [27]) (H := Ev.hk) (ob := Ev.ob) (M := 4000)
    (loose := ["_wall", "__name__", "MOST_TIMES", "is_whole", "is_between", "is_whole_list", "is_at_most", "EvenError", "InvalidPlan", "InvalidTime", "InvalidSide", "InvalidNumber", "Plan", "check_bound", "_law_jar", "_law_dip", "_law_around", "_law_small", "_law_great", "_law_heap", "_law_joined", "_law_between", "_law_part_right", "_law_loose_right"]) (d := HandSHeadRun.topDef (OpenLaw.row PySem.Challenge.rw_evenbits_k03_plans_joined_and_parted).prog 27) (kwd := []) Ev.ob_eq
    (by kernel_rfl) (fun s => by kernel_rfl) Ev.run (by kernel_rfl) (by kernel_rfl) (by kernel_rfl) (by rfl) (by first | assumption | decide +kernel) (by decide +kernel) ⟨rfl, rfl, rfl, rfl, rfl, by decide +kernel⟩ ?hw ?hc
  case hw => w_witness2
  case hc =>
    refine L2.walk_ofE (l := PySem.Challenge.rw_evenbits_k03_plans_joined_and_parted) (n := 63) (k := 7) (x := "script") (CX := L2.CX0) rfl (by decide) (by kernel_rfl) ⟨rfl, by decide, by decide⟩ ?F (fun _ _ _ _ z => z)
    intro w mg fa h Y G hmg0
    obtain ⟨K, KX, c⟩ := Y
    have hmg : mg ("law" : PySem.Str) = some (.ref fa) := by
      have e : (HandSHeadRun.topDef (OpenLaw.row PySem.Challenge.rw_evenbits_k03_plans_joined_and_parted).prog 27).name = ("law" : PySem.Str) := by kernel_rfl
      rw [← e]
      exact hmg0
    obtain ⟨fd, hb, hF⟩ := Ev.law_facts (P := (PySem.Challenge.rw_evenbits_k03_plans_joined_and_parted).prog) (w := w) KX G hmg c
    exact ⟨K, fd, Ev.sp_law K, KX, hb, fun H a ns hl _ hS => ⟨a, ns, rfl, hS, hl, fun _ => rfl⟩, hF⟩

