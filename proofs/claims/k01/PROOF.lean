import PyProof.Rows.All
import Wide.All
import OpenK.AllK
import Wide.FinOn
import HandS.ForMost
import HandS.Flow
import HandS.Style
import HandS.Wide
import HandS.IsInst
import HandS.Property
import HandS.Defaults
import HandS.HeadHook2
import HandS.HeadNt
import HandS.MakeKw
import HandS.Walk
import PyProof.InstNe
import KE.GoesEnumKw
import HandS.Iter
import HandS.Flt
import HandS.TryOnly
import HandS.Ends
import PyProof.ReprRoads
import HandS.More
import HandS.MakeKwOnly
import PySem.Challenge.RW_evenbits_k01_plans_made
import KE.KEqDeep
import HandS.Evl
import PyProof.ReprLen
import Lean
import KE.KStateDown
import HandS.Head0
import HandS.Head1
import HandS.Head2
import HandS.HeadEnd
set_option Elab.async false
set_option linter.all false
set_option maxRecDepth 100000
set_option maxHeartbeats 4000000
namespace Ev
open PySem PySem.Spec PyProof.Rows L2
/-! ## what is known of the abstract heap -/
def Fr (J : List Addr) (H H' : Hp) : Prop := ∀ a o, a ∉ J → H a = some o → H' a = some o
theorem Fr.refl {J : List Addr} (H : Hp) : Fr J H H := fun _ _ _ h => h
theorem Fr.trans {J : List Addr} {H H1 H2 : Hp} (a : Fr J H H1) (b : Fr J H1 H2) : Fr J H H2 := fun x o hx h => b x o hx (a x o hx h)
theorem Fr.up {J J' : List Addr} {H H1 : Hp} (a : Fr J H H1) (s : ∀ x, x ∈ J → x ∈ J') : Fr J' H H1 := fun x o hx h => a x o (fun z => hx (s x z)) h
theorem Fr.up0 {J : List Addr} {H H1 : Hp} (a : Fr [] H H1) : Fr J H H1 := a.up fun _ z => nomatch z
theorem Fr.new {J : List Addr} {H H1 : Hp} {p : Addr} {o : HO} (a : Fr J H H1) (hp : H1 p = none) : Fr J H (upd H1 p o) := fun x u hx h => by
  have h1 := a x u hx h
  rw [upd_ne (ne_of_none h1 hp)]
  exact h1
theorem Fr.get {J : List Addr} {H H1 : Hp} (a : Fr J H H1) {x : Addr} {o : HO} (h : H x = some o) (hx : x ∉ J) : H1 x = some o := a x o hx h
theorem Fr.sql {J : List Addr} {K : PySem.W.Frag} {H H1 : Hp} (a : Fr J H H1) {x : Addr} {xs : List V} (h : SqL K H x xs) (hx : x ∉ J) : SqL K H1 x xs := by
  rcases h with (h | ⟨o, h⟩) | h
  · exact .inl (.inl (a x _ hx h))
  · exact .inl (.inr ⟨o, a x _ hx h⟩)
  · exact .inr h
theorem Fr.sqt {J : List Addr} {K : PySem.W.Frag} {H H1 : Hp} (a : Fr J H H1) {x : Addr} {xs : List V} (h : SqT K H x xs) (hx : x ∉ J) : SqT K H1 x xs := by
  rcases h with (h | ⟨o, h⟩) | h
  · exact .inl (.inl (a x _ hx h))
  · exact .inl (.inr ⟨o, a x _ hx h⟩)
  · exact .inr h
/-- the addresses of a list of entries -/
def HL (H : Hp) (N : List (Addr × HO)) : Prop := (N.map (·.1)).Nodup ∧ ∀ q ∈ N, H q.1 = some q.2
def New (H H' : Hp) (N : List (Addr × HO)) : Prop := HL H' N ∧ ∀ q ∈ N, H q.1 = none
abbrev En := Nat × Addr × HO
/-- entries: 0 stood at the entry and stays, 1 stood at the entry and may change, 2 is new -/
structure Z (H0 H : Hp) (E : List En) : Prop where
  nd : (E.map (·.2.1)).Nodup
  at_ : ∀ q ∈ E, H q.2.1 = some q.2.2
  fresh : ∀ q ∈ E, q.1 = 2 → H0 q.2.1 = none
  fr : ∀ a o, (∀ q ∈ E, q.1 = 1 → q.2.1 ≠ a) → H0 a = some o → H a = some o
section
variable {H0 H H' : Hp} {E : List En}
theorem Z.get (z : Z H0 H E) {t : Nat} {a : Addr} {o : HO} (h : (t, a, o) ∈ E) : H a = some o := z.at_ _ h
theorem Z.start0 (H : Hp) : Z H H [] := ⟨List.nodup_nil, (fun _ h => nomatch h), (fun _ h => nomatch h), fun _ _ _ h => h⟩
theorem Z.old (z : Z H0 H E) {a : Addr} {o : HO} (t : Nat) (ht : t ≠ 2) (h : H a = some o) (hn : ∀ q ∈ E, q.2.1 ≠ a) : Z H0 H ((t, a, o) :: E) :=
  ⟨by
    rw [List.map_cons, List.nodup_cons]
    refine ⟨fun m => ?_, z.nd⟩
    obtain ⟨q, hq, e⟩ := List.mem_map.mp m
    exact hn q hq e,
  fun q hq => by
    rcases List.mem_cons.mp hq with rfl | hq
    · exact h
    · exact z.at_ q hq,
  fun q hq e => by
    rcases List.mem_cons.mp hq with rfl | hq
    · exact absurd e ht
    · exact z.fresh q hq e,
  fun b u hb h' => z.fr b u (fun q hq => hb q (List.mem_cons_of_mem _ hq)) h'⟩
theorem Z.new (z : Z H0 H E) {p : Addr} {o : HO} (hp : H p = none) (h0 : H0 p = none) : Z H0 (upd H p o) ((2, p, o) :: E) := by
  have hn : ∀ q ∈ E, q.2.1 ≠ p := fun q hq => ne_of_none (z.at_ q hq) hp
  refine ⟨?_, fun q hq => ?_, fun q hq e => ?_, fun b u hb h' => ?_⟩
  · rw [List.map_cons, List.nodup_cons]
    refine ⟨fun m => ?_, z.nd⟩
    obtain ⟨q, hq, e⟩ := List.mem_map.mp m
    exact hn q hq e
  · rcases List.mem_cons.mp hq with rfl | hq
    · exact upd_same
    · rw [upd_ne (hn q hq)]
      exact z.at_ q hq
  · rcases List.mem_cons.mp hq with rfl | hq
    · exact h0
    · exact z.fresh q hq e
  · have h1 := z.fr b u (fun q hq => hb q (List.mem_cons_of_mem _ hq)) h'
    rw [upd_ne (ne_of_none h1 hp)]
    exact h1
/-- new at the heap is new at the entry's, as long as all that may change is known -/
theorem Z.none (z : Z H0 H E) {p : Addr} (hp : H p = none) : H0 p = none := by
  cases e : H0 p with
  | none => rfl
  | some o =>
    have h1 := z.fr p o (fun q hq _ => ne_of_none (z.at_ q hq) hp) e
    rw [hp] at h1
    cases h1
theorem Z.alloc (z : Z H0 H E) {p : Addr} (o : HO) (hp : H p = Option.none) : Z H0 (upd H p o) ((2, p, o) :: E) := z.new hp (z.none hp)
theorem mem_set_of {α : Type} {l : List α} {i : Nat} {x y : α} (h : y ∈ l.set i x) : y = x ∨ ∃ j, j ≠ i ∧ l[j]? = some y := by
  obtain ⟨j, hj, e⟩ := List.mem_iff_getElem.mp h
  rw [List.getElem_set] at e
  by_cases hij : i = j
  · rw [if_pos hij] at e
    exact .inl e.symm
  · rw [if_neg hij] at e
    refine .inr ⟨j, fun z => hij z.symm, ?_⟩
    rw [List.getElem?_eq_getElem (by rw [List.length_set] at hj; exact hj), e]
theorem Z.other (z : Z H0 H E) {i j : Nat} {q r : En} (hi : E[i]? = some q) (hj : E[j]? = some r) (h : j ≠ i) : r.2.1 ≠ q.2.1 := fun e => by
  have h1 : (E.map (·.2.1))[i]? = some q.2.1 := by rw [List.getElem?_map, hi] <;> rfl
  have h2 : (E.map (·.2.1))[j]? = some r.2.1 := by rw [List.getElem?_map, hj] <;> rfl
  rw [e] at h2
  obtain ⟨g1, e1⟩ := List.getElem?_eq_some_iff.mp h1
  obtain ⟨g2, e2⟩ := List.getElem?_eq_some_iff.mp h2
  exact h ((List.getElem_inj z.nd).mp (e2.trans e1.symm))
theorem map_set_same {i : Nat} {t : Nat} {a : Addr} {o o' : HO} (h : E[i]? = some (t, a, o)) : (E.set i (t, a, o')).map (·.2.1) = E.map (·.2.1) := by
  rw [List.map_set]
  have h1 : (E.map (·.2.1))[i]? = some a := by rw [List.getElem?_map, h] <;> rfl
  obtain ⟨g1, e1⟩ := List.getElem?_eq_some_iff.mp h1
  refine List.ext_getElem (by simp) fun k k1 k2 => ?_
  rw [List.getElem_set]
  split
  · rename_i e
    subst e
    exact e1.symm
  · rfl
/-- the heap changed at the i-th entry alone -/
theorem Z.move (z : Z H0 H E) (i : Nat) {t : Nat} {a : Addr} {o o' : HO} (hi : E[i]? = some (t, a, o)) (ht : t = 1 ∨ t = 2) (ha : H' a = some o') (f : Fr [a] H H') : Z H0 H' (E.set i (t, a, o')) := by
  have hin := List.mem_of_getElem? hi
  refine ⟨?_, fun q hq => ?_, fun q hq e => ?_, fun b u hb h' => ?_⟩
  · rw [map_set_same hi]
    exact z.nd
  · rcases mem_set_of hq with rfl | ⟨j, hj, e⟩
    · exact ha
    · exact f _ _ (by
        intro m
        rcases List.mem_cons.mp m with m | m
        · exact z.other hi e hj m
        · cases m) (z.at_ q (List.mem_of_getElem? e))
  · rcases mem_set_of hq with rfl | ⟨j, hj, e2⟩
    · exact z.fresh (t, a, o) hin e
    · exact z.fresh q (List.mem_of_getElem? e2) e
  · have hba : b ≠ a := fun e => by
      subst e
      rcases ht with rfl | rfl
      · exact hb (1, b, o') (List.mem_iff_getElem?.mpr ⟨i, by rw [List.getElem?_set_self (List.getElem?_eq_some_iff.mp hi).1]⟩) rfl rfl
      · have := z.fresh _ hin rfl
        rw [h'] at this
        cases this
    have h1 := z.fr b u (fun q hq e1 e2 => by
      obtain ⟨j, hj⟩ := List.mem_iff_getElem?.mp hq
      by_cases hji : j = i
      · subst hji
        rw [hi] at hj
        cases hj
        exact hba e2.symm
      · exact hb q (List.mem_iff_getElem?.mpr ⟨j, by rw [List.getElem?_set_ne (Ne.symm hji)]; exact hj⟩) e1 e2) h'
    exact f b u (fun m => by
      rcases List.mem_cons.mp m with m | m
      · exact hba m
      · cases m) h1
theorem Z.set (z : Z H0 H E) (i : Nat) {t : Nat} {a : Addr} {o : HO} (o' : HO) (hi : E[i]? = some (t, a, o)) (ht : t = 1 ∨ t = 2) : Z H0 (upd H a o') (E.set i (t, a, o')) :=
  z.move i hi ht upd_same fun b u hb h => by
    rw [upd_ne (fun e => hb (by rw [e]; exact List.mem_cons_self))]
    exact h
theorem Z.same (z : Z H0 H E) (f : Fr [] H H') : Z H0 H' E := ⟨z.nd, fun q hq => f _ _ (fun m => nomatch m) (z.at_ q hq), z.fresh, fun a o ha h => f _ _ (fun m => nomatch m) (z.fr a o ha h)⟩
/-- what came new -/
theorem Z.adds (z : Z H0 H' E) {N : List (Addr × HO)} (n : HL H' N) (h0 : ∀ q ∈ N, H0 q.1 = Option.none) (hd : ∀ q ∈ N, ∀ e ∈ E, e.2.1 ≠ q.1) : Z H0 H' (N.map (fun q => ((2, q.1, q.2) : En)) ++ E) := by
  refine ⟨?_, fun q hq => ?_, fun q hq e => ?_, fun b u hb h' => ?_⟩
  · rw [List.map_append, List.nodup_append]
    refine ⟨?_, z.nd, fun x hx y hy e => ?_⟩
    · have e : (N.map (fun q => ((2, q.1, q.2) : En))).map (·.2.1) = N.map (·.1) := by rw [List.map_map]; rfl
      rw [e]
      exact n.1
    · obtain ⟨q, hq, rfl⟩ := List.mem_map.mp hx
      obtain ⟨q', hq', rfl⟩ := List.mem_map.mp hq
      obtain ⟨r, hr, rfl⟩ := List.mem_map.mp hy
      exact hd q' hq' r hr e.symm
  · rcases List.mem_append.mp hq with hq | hq
    · obtain ⟨q', hq', rfl⟩ := List.mem_map.mp hq
      exact n.2 q' hq'
    · exact z.at_ q hq
  · rcases List.mem_append.mp hq with hq | hq
    · obtain ⟨q', hq', rfl⟩ := List.mem_map.mp hq
      exact h0 q' hq'
    · exact z.fresh q hq e
  · exact z.fr b u (fun q hq => hb q (List.mem_append_right _ hq)) h'
/-- behind a call that changes the i-th entry and makes N -/
theorem Z.call (z : Z H0 H E) (i : Nat) {t : Nat} {a : Addr} {o o' : HO} {N : List (Addr × HO)} (hi : E[i]? = some (t, a, o)) (ht : t = 1 ∨ t = 2) (ha : H' a = some o') (f : Fr [a] H H') (n : New H H' N) : Z H0 H' (N.map (fun q => ((2, q.1, q.2) : En)) ++ E.set i (t, a, o')) := by
  refine (z.move i hi ht ha f).adds n.1 (fun q hq => z.none (n.2 q hq)) fun q hq e he => ?_
  rcases mem_set_of he with rfl | ⟨j, hj, e2⟩
  · exact ne_of_none (z.at_ (t, a, o) (List.mem_of_getElem? hi)) (n.2 q hq)
  · exact ne_of_none (z.at_ _ (List.mem_of_getElem? e2)) (n.2 q hq)
/-- behind a call that makes N alone -/
theorem Z.call0 (z : Z H0 H E) {N : List (Addr × HO)} (f : Fr [] H H') (n : New H H' N) : Z H0 H' (N.map (fun q => ((2, q.1, q.2) : En)) ++ E) :=
  (z.same f).adds n.1 (fun q hq => z.none (n.2 q hq)) fun q hq e he => ne_of_none (z.at_ _ he) (n.2 q hq)
/-- entries forgotten, but those that may change -/
theorem Z.sub (z : Z H0 H E) {E' : List En} (s : E'.Sublist E) (k : ∀ q ∈ E, q.1 = 1 → q ∈ E') : Z H0 H E' :=
  ⟨(s.map _).nodup z.nd, fun q hq => z.at_ q (s.subset hq), fun q hq => z.fresh q (s.subset hq), fun a o ha h => z.fr a o (fun q hq e => ha q (k q hq e) e) h⟩
theorem Z.perm (z : Z H0 H E) {E' : List En} (s : E'.Perm E) : Z H0 H E' :=
  ⟨(s.map _).nodup_iff.mpr z.nd, fun q hq => z.at_ q (s.subset hq), fun q hq => z.fresh q (s.subset hq), fun a o ha h => z.fr a o (fun q hq e => ha q (s.symm.subset hq) e) h⟩
theorem Z.fr0 (z : Z H0 H E) (h : ∀ q ∈ E, q.1 ≠ 1) : Fr [] H0 H := fun a o _ e => z.fr a o (fun q hq e1 => absurd e1 (h q hq)) e
theorem Z.fr1 (z : Z H0 H E) {j : Addr} (h : ∀ q ∈ E, q.1 = 1 → q.2.1 = j) : Fr [j] H0 H := fun a o ha e => z.fr a o (fun q hq e1 e2 => ha (by rw [← e2, h q hq e1]; exact List.mem_cons_self)) e
theorem Z.keep (z : Z H0 H E) {a : Addr} {o : HO} (h : H0 a = some o) (n : ∀ q ∈ E, q.1 = 1 → q.2.1 ≠ a) : H a = some o := z.fr a o n h
theorem Z.comp (z : Z H0 H E) {D : Addr} {o : HO} (f : Fr [] H H') (h0 : H D = Option.none) (h1 : H' D = some o) : Z H0 H' ((2, D, o) :: E) := by
  refine z.call0 (N := [(D, o)]) f ⟨⟨List.nodup_cons.mpr ⟨(fun m => nomatch m), List.nodup_nil⟩, fun q hq => ?_⟩, fun q hq => ?_⟩
  · rcases List.mem_cons.mp hq with rfl | hq
    · exact h1
    · cases hq
  · rcases List.mem_cons.mp hq with rfl | hq
    · exact h0
    · cases hq
theorem Z.ne (z : Z H0 H E) (i j : Nat) {q r : En} (hi : E[i]? = some q) (hj : E[j]? = some r) (h : j ≠ i) : r.2.1 ≠ q.2.1 := z.other hi hj h
/-- of the new ones those by their places -/
theorem Z.made (z : Z H0 H E) {N : List (Addr × HO)} (s : (N.map (fun q => ((2, q.1, q.2) : En))).Sublist E) : New H0 H N := by
  refine ⟨⟨?_, fun q hq => z.at_ (2, q.1, q.2) (s.subset (List.mem_map.mpr ⟨q, hq, rfl⟩))⟩, fun q hq => z.fresh (2, q.1, q.2) (s.subset (List.mem_map.mpr ⟨q, hq, rfl⟩)) rfl⟩
  have := (s.map (·.2.1)).nodup z.nd
  rw [List.map_map] at this
  exact this
end
/-! ## readings, one step each -/
section
variable {K : PySem.W.Frag} {σ : L2.St} {H : Hp} {Q : VK} {QB : Bool → Hp → Prop} {D : Ends} {t u : TS} {ta tb tc te : TE} {tt tu : TT} {tas : TA} {v x y : V} {n i j : Int} {C : Int → Int → Prop} {g : Int → Int → V} {G : TG} {p a : Addr} {xs : List V} {r : R2}
theorem r_seq (h : t { D with nx := u D } σ H) : tSeq t u D σ H := h
theorem r_asg (h : te σ H fun x H1 => G x σ H1 D.nx) : tAsg te G D σ H := h
theorem r_ret (h : te σ H D.rt) : tRet te D σ H := h
theorem r_drop (h : te σ H fun _ H1 => D.nx σ H1) : tDrop te D σ H := h
theorem r_next (h : D.nx σ H) : tNext D σ H := h
theorem r_ifs (h : tt σ H fun b H1 => if b = true then t D σ H1 else u D σ H1) : tIfS tt t u D σ H := h
theorem r_var {k : Nat} (h : σ[k]? = some (some v)) (q : Q v H) : tVar k σ H Q := ⟨v, h, q⟩
theorem r_c (q : Q v H) : tC v σ H Q := q
theorem r_op (h : ta σ H fun x H1 => tb σ H1 fun y H2 => r x y H2 Q) : tOp r ta tb σ H Q := h
theorem r_un {r : V → Hp → VK → Prop} (h : ta σ H fun x H1 => r x H1 Q) : tUn r ta σ H Q := h
theorem r_I0 (q : Q (g i j) H) : rI0 g (.int i) (.int j) H Q := ⟨i, j, rfl, rfl, q⟩
theorem r_I (c : C i j) (q : Q (g i j) H) : rI C g (.int i) (.int j) H Q := ⟨i, j, rfl, rfl, c, q⟩
theorem r_U {g : Int → V} (q : Q (g i) H) : rU g (.int i) H Q := ⟨i, rfl, q⟩
theorem r_test (h : te σ H fun x H' => ∃ k, x = .bl k ∧ QB k H') : tTest te σ H QB := h
theorem r_B (h : te σ H fun x H' => ∃ k, x = .bl k ∧ QB k H') : tB te σ H QB := h
theorem r_and (h : tt σ H fun c H1 => if c = true then tu σ H1 QB else QB false H1) : tAnd tt tu σ H QB := h
theorem r_or (h : tt σ H fun c H1 => if c = true then QB true H1 else tu σ H1 QB) : tOr tt tu σ H QB := h
theorem r_not (h : tt σ H fun c H1 => QB (!c) H1) : tNot tt σ H QB := h
theorem r_andV (h : ta σ H fun x H1 => ∃ c, x = .bl c ∧ if c = true then tb σ H1 Q else Q (.bl false) H1) : tAndV ta tb σ H Q := h
theorem r_orV (h : ta σ H fun x H1 => ∃ c, x = .bl c ∧ if c = true then Q (.bl true) H1 else tb σ H1 Q) : tOrV ta tb σ H Q := h
theorem r_notV (h : ta σ H fun x H1 => ∃ c, x = .bl c ∧ Q (.bl (!c)) H1) : tNotV ta σ H Q := h
theorem r_exif {b : Bool} {P : Bool → Prop} (h : P b) : ∃ c, V.bl b = V.bl c ∧ P c := ⟨b, rfl, h⟩
theorem r_if (h : tt σ H fun c H1 => if c = true then ta σ H1 Q else tb σ H1 Q) : tIf tt ta tb σ H Q := h
theorem r_name {k : Nat} {R : L2.St → Hp → Prop} (h : R (σ.set k (some v)) H) : gName k v σ H R := h
theorem r_gtup {k : Nat} {T : TGs} {R : L2.St → Hp → Prop} (h : SqT K H a xs) (e : xs.length = k) (q : T xs σ H R) : gTup K k T (.ref a) σ H R := ⟨a, xs, rfl, h, e, q⟩
theorem r_gcons {T : TGs} {R : L2.St → Hp → Prop} {vs : List V} (q : G v σ H fun σ' H' => T vs σ' H' R) : gCons G T (v :: vs) σ H R := ⟨v, vs, rfl, q⟩
theorem r_gnil {R : L2.St → Hp → Prop} (q : R σ H) : gNil [] σ H R := ⟨rfl, q⟩
theorem r_gsub {T : TSet} {R : L2.St → Hp → Prop} (h : ta σ H fun o H1 => tb σ H1 fun i H2 => T o i v H2 fun H3 => R σ H3) : gSub ta tb T v σ H R := h
theorem r_setL {R : Hp → Prop} {k : Int} (h : H p = some (.lst xs)) (q : ∃ m, ixN xs.length k = some m ∧ R (upd H p (.lst (xs.set m v)))) : rSetL (.ref p) (.int k) v H R := by
  obtain ⟨m, e, q⟩ := q
  exact ⟨p, xs, k, m, rfl, rfl, h, e, q⟩
theorem r_tup (h : tas σ H fun xs H1 => xs.length ≤ sizeLine ∧ ∀ p, H1 p = none → Q (.ref p) (upd H1 p (.tup xs))) : tTup tas σ H Q := h
theorem r_lst (h : tas σ H fun xs H1 => xs.length ≤ sizeLine ∧ ∀ p, H1 p = none → Q (.ref p) (upd H1 p (.lst xs))) : tLst tas σ H Q := h
theorem r_mk {P : Prop} (e : xs.length ≤ sizeLine) (h : P) : xs.length ≤ sizeLine ∧ P := ⟨e, h⟩
theorem iteNT {A B : Prop} (h : B) : if (!true) = true then A else B := iteF h
theorem iteNF {A B : Prop} (h : A) : if (!false) = true then A else B := iteT h
theorem r_cons {R : List V → Hp → Prop} (h : ta σ H fun x H1 => tas σ H1 fun xs H2 => R (x :: xs) H2) : tCons ta tas σ H R := h
theorem r_nil {R : List V → Hp → Prop} (h : R [] H) : tNil σ H R := h
theorem r_cb {rr : List V → Hp → VK → Prop} (h : tas σ H fun vs H1 => rr vs H1 Q) : tCB rr tas σ H Q := h
theorem r_call {sp : Sp} {dvs : List V} {E : XK} (h : tas σ H fun vs H1 => sp (vs ++ dvs) H1 Q E) : tCall sp dvs E tas σ H Q := h
theorem r_ixL (h : SqL K H p xs) (q : ∃ v, atI xs i = some v ∧ Q v H) : rIxL K (.ref p) (.int i) H Q := by
  obtain ⟨v, e, q⟩ := q
  exact ⟨p, xs, i, v, rfl, rfl, h, e, q⟩
theorem r_ixT (h : SqT K H p xs) (q : ∃ v, atI xs i = some v ∧ Q v H) : rIxT K (.ref p) (.int i) H Q := by
  obtain ⟨v, e, q⟩ := q
  exact ⟨p, xs, i, v, rfl, rfl, h, e, q⟩
theorem r_at {P : V → Prop} (e : atI xs i = some v) (q : P v) : ∃ v, atI xs i = some v ∧ P v := ⟨v, e, q⟩
theorem r_ixn {k : Int} {m n : Nat} {P : Nat → Prop} (e : ixN n k = some m) (q : P m) : ∃ m, ixN n k = some m ∧ P m := ⟨m, e, q⟩
theorem r_ixSL (q : rIxL K x y H Q) : rIx K x y H Q := .inl q
theorem r_ixST (q : rIxT K x y H Q) : rIx K x y H Q := .inr (.inl q)
theorem r_exfld {Cc dx : Addr} {fs : List (Str × V)} {f : Str} {P : V → Prop} (h : H a = some (.ins Cc dx fs)) (c : Cls K Cc) (n : NoAttr K Cc f) (l : fs.lookup f = some v) (q : P v) :
    ∃ b C dx fs v, V.ref a = .ref b ∧ H b = some (.ins C dx fs) ∧ Cls K C ∧ NoAttr K C f ∧ fs.lookup f = some v ∧ P v := ⟨a, Cc, dx, fs, v, rfl, h, c, n, l, q⟩
theorem r_exsfld {Cc dx : Addr} {fs : List (Str × V)} {f : Str} {P : Addr → Addr → Addr → List (Str × V) → Prop} (h : H a = some (.ins Cc dx fs)) (c : Cls K Cc) (n : NoAttr K Cc f) (l : fs.length < 1000) (q : P a Cc dx fs) :
    ∃ b C dx fs, V.ref a = .ref b ∧ H b = some (.ins C dx fs) ∧ Cls K C ∧ NoAttr K C f ∧ fs.length < 1000 ∧ P b C dx fs := ⟨a, Cc, dx, fs, rfl, h, c, n, l, q⟩
theorem r_sfld {f : Str} (h : te σ H fun y H1 => ta σ H1 fun x H2 => ∃ a C dx fs, x = .ref a ∧ H2 a = some (.ins C dx fs) ∧ Cls K C ∧ NoAttr K C f ∧ fs.length < 1000 ∧ D.nx σ (upd H2 a (.ins C dx (putF f y fs)))) : sFld K ta te f D σ H := h
theorem r_exm {Cc dx : Addr} {fs : List (Str × V)} {m : Str} {P : Prop} (h : H a = some (.ins Cc dx fs)) (l : fs.lookup m = none) (q : P) : ∃ b dx fs, V.ref a = .ref b ∧ H b = some (.ins Cc dx fs) ∧ fs.lookup m = none ∧ P := ⟨a, dx, fs, rfl, h, l, q⟩
theorem r_exp {Cc dx : Addr} {fs : List (Str × V)} {P : Addr → Prop} (h : H a = some (.ins Cc dx fs)) (q : P a) : ∃ b dx fs, V.ref a = .ref b ∧ H b = some (.ins Cc dx fs) ∧ P b := ⟨a, dx, fs, rfl, h, q⟩
theorem r_fld {f : Str} (h : ta σ H fun x H1 => ∃ a C dx fs v, x = .ref a ∧ H1 a = some (.ins C dx fs) ∧ Cls K C ∧ NoAttr K C f ∧ fs.lookup f = some v ∧ Q v H1) : tFld K ta f σ H Q := h
theorem r_bm {T : String} {rr : V → List V → Hp → VK → Prop} (h : ta σ H fun x H1 => tyV K T x H1 ∧ tas σ H1 fun xs H2 => rr x xs H2 Q) : tBM K T rr ta tas σ H Q := h
theorem r_app (h : H p = some (.lst xs)) (e : xs.length < sizeLine) (q : Q .non (upd H p (.lst (xs ++ [y])))) : rAppend (.ref p) [y] H Q := ⟨p, xs, y, rfl, rfl, h, e, q⟩
theorem r_tyL {P : Prop} (h : H p = some (.lst xs)) (q : P) : tyV K "list" (.ref p) H ∧ P := ⟨.inl ⟨rfl, _, SqL.of h⟩, q⟩
theorem r_sl {rr : V → Option Int → Option Int → Hp → VK → Prop} {tl th : TO} (h : te σ H fun x H1 => tl σ H1 fun l H2 => th σ H2 fun u H3 => rr x l u H3 Q) : tSl rr te tl th σ H Q := h
theorem r_part {R : Option Int → Hp → Prop} (h : te σ H fun x H1 => ∃ i, x = .int i ∧ R (some i) H1) : tPart te σ H R := h
theorem r_exint {R : Int → Prop} (h : R i) : ∃ k, V.int i = V.int k ∧ R k := ⟨i, rfl, h⟩
theorem r_nopart {R : Option Int → Hp → Prop} (h : R none H) : tNoPart σ H R := h
theorem r_slL {lo hi : Option Int} (h : SqL K H a xs) (q : ∀ p, H p = none → Q (.ref p) (upd H p (.lst (cutV xs lo hi)))) : rSlL K (.ref a) lo hi H Q := ⟨a, xs, rfl, h, q⟩
theorem r_revL (h : te σ H fun x H1 => ∃ a xs, x = .ref a ∧ SqL K H1 a xs ∧ ∀ p, H1 p = none → Q (.ref p) (upd H1 p (.lst xs.reverse))) : tRevL K te σ H Q := h
theorem r_exrev {P : List V → Prop} (h : SqL K H a xs) (q : P xs) : ∃ b ys, V.ref a = .ref b ∧ SqL K H b ys ∧ P ys := ⟨a, xs, rfl, h, q⟩
theorem r_cat {l b : Addr} {zs : List V} (h1 : H l = some (.lst xs)) (h2 : H b = some (.lst zs)) (e : xs.length + zs.length ≤ sizeLine) (q : ∀ p, H p = none → Q (.ref p) (upd H p (.lst (xs ++ zs)))) : rCat (.ref l) (.ref b) H Q := ⟨l, b, xs, zs, rfl, rfl, h1, h2, e, q⟩
theorem r_eq (h : scal x y = true) (q : Q (.bl (decide (x = y))) H) : rEq x y H Q := ⟨h, q⟩
theorem r_ne (h : scal x y = true) (q : Q (.bl (!decide (x = y))) H) : rNe x y H Q := ⟨h, q⟩
theorem r_chain {r' : R2} (h : ta σ H fun x H1 => tb σ H1 fun y H2 => r x y H2 fun z H3 => ∃ k, z = .bl k ∧ (if k = true then tc σ H3 fun w' H4 => r' y w' H4 Q else Q (.bl false) H3)) : tChain r r' ta tb tc σ H Q := h
theorem r_ite {c A B : Prop} [Decidable c] (h1 : c → A) (h2 : ¬ c → B) : if decide c = true then A else B := ite2 (fun z => h1 (of_decide_eq_true z)) fun z => h2 fun y => z (decide_eq_true y)
theorem r_iteN {c A B : Prop} [Decidable c] (h1 : ¬ c → A) (h2 : c → B) : if (!decide c) = true then A else B := ite2 (fun z => h1 fun y => by rw [decide_eq_true y] at z; cases z) fun z => h2 (by
  by_cases y : c
  · exact y
  · exact absurd (by rw [decide_eq_false y]; rfl) z)
theorem r_par {k l : Nat} (h : tas σ H fun vs H1 => ∃ v w, vs = [v, w] ∧ D.nx ((σ.set k (some v)).set l (some w)) H1) : tPar k l tas D σ H := h
theorem r_expar {R : V → V → Prop} (h : R x y) : ∃ v w, [x, y] = [v, w] ∧ R v w := ⟨x, y, rfl, h⟩
theorem r_exref {R : Addr → Prop} (h : R a) : ∃ b, V.ref a = V.ref b ∧ R b := ⟨a, rfl, h⟩
/-! loops -/
def ForJ (G : TG) (tb : TS) (D : Ends) (σ : L2.St) (J : It) (H1 : Hp) : Prop := ∃ W : Nat → Nat → L2.St → Hp → Prop, (∃ m, W 0 m σ H1) ∧ ∀ i m σ H, W i m σ H →
  (J.stop i H ∧ D.nx σ H) ∨ (J.go i H ∧ ∃ N : L2.St → Hp → Prop, (∀ σ' H', N σ' H' → ∃ m', m' < m ∧ W (i + 1) m' σ' H') ∧ ∀ x H', J.yld i H x H' → G x σ H' fun σ2 H2 => tb { D with nx := N, ct := N, bk := D.nx } σ2 H2)
theorem r_for {wi : TI} {tb : TS} (h : wi σ H (ForJ G tb D σ)) : tFor wi G tb D σ H := h
def LcJ (G : TG) (tt : TT) (te : TE) (vs : List Nat) (σ : L2.St) (Q : VK) (J : It) (H1 : Hp) : Prop := ∀ D, H1 D = none → ∃ W : Nat → Nat → Hp → Prop, (∃ m, W 0 m (upd H1 D (.lst []))) ∧ ∀ i m H, W i m H →
  (J.stop i H ∧ Q (.ref D) H) ∨ (J.go i H ∧ ∃ Nx : Hp → Prop, (∀ H', Nx H' → ∃ m', m' < m ∧ W (i + 1) m' H') ∧ ∀ x H', J.yld i H x H' → G x (wipe σ vs) H' fun σ2 H2 => wipe σ2 vs = wipe σ vs ∧ tt σ2 H2 fun b H3 =>
    if b = true then te σ2 H3 fun y H4 => ∃ acc, H4 D = some (.lst acc) ∧ acc.length < sizeLine ∧ Nx (upd H4 D (.lst (acc ++ [y]))) else Nx H3)
theorem r_lc {wi : TI} {vs : List Nat} (h : wi σ H (LcJ G tt te vs σ Q)) : tLc wi G tt te vs σ H Q := h
theorem r_ilist {R : It → Hp → Prop} (h : te σ H fun x H1 => ∃ a, x = .ref a ∧ (∃ xs, SqL K H1 a xs) ∧ R (Itl K a) H1) : iList K te σ H R := h
theorem r_exil {P : Addr → Prop} (hs : SqL K H a xs) (h : P a) : ∃ b, V.ref a = .ref b ∧ (∃ xs, SqL K H b xs) ∧ P b := ⟨a, rfl, ⟨xs, hs⟩, h⟩
theorem r_itup {R : It → Hp → Prop} (h : te σ H fun x H1 => ∃ a, x = .ref a ∧ (∃ xs, SqT K H1 a xs) ∧ R (Itt K a) H1) : iTup K te σ H R := h
theorem r_exit {P : Addr → Prop} (hs : SqT K H a xs) (h : P a) : ∃ b, V.ref a = .ref b ∧ (∃ xs, SqT K H b xs) ∧ P b := ⟨a, rfl, ⟨xs, hs⟩, h⟩
theorem r_irng1 {R : It → Hp → Prop} (h : tas σ H fun vs H1 => ∃ j : Int, vs = [.int j] ∧ -(2 ^ 62) ≤ j ∧ j < 2 ^ 62 ∧ R (Itr 0 j.toNat) H1) : iRng1 tas σ H R := h
theorem r_exr1 {P : Int → Prop} (h1 : -(2 ^ 62) ≤ j ∧ j < 2 ^ 62) (h : P j) : ∃ k : Int, [V.int j] = [.int k] ∧ -(2 ^ 62) ≤ k ∧ k < 2 ^ 62 ∧ P k := ⟨j, rfl, h1.1, h1.2, h⟩
theorem r_irng2 {R : It → Hp → Prop} (h : tas σ H fun vs H1 => ∃ i j : Int, vs = [.int i, .int j] ∧ (-(2 ^ 62) ≤ i ∧ i < 2 ^ 62 ∧ -(2 ^ 62) ≤ j ∧ j < 2 ^ 62) ∧ R (Itr i (j - i).toNat) H1) : iRng2 tas σ H R := h
theorem r_exr2 {P : Int → Int → Prop} (h1 : -(2 ^ 62) ≤ i ∧ i < 2 ^ 62 ∧ -(2 ^ 62) ≤ j ∧ j < 2 ^ 62) (h : P i j) : ∃ k l : Int, [V.int i, V.int j] = [.int k, .int l] ∧ (-(2 ^ 62) ≤ k ∧ k < 2 ^ 62 ∧ -(2 ^ 62) ≤ l ∧ l < 2 ^ 62) ∧ P k l := ⟨i, j, rfl, h1, h⟩
theorem r_irng3 {R : It → Hp → Prop} (h : tas σ H fun vs H1 => ∃ (i j c : Int) (n : Nat), vs = [.int i, .int j, .int c] ∧ RgC i j c n ∧ R (Itc i c n) H1) : iRng3 tas σ H R := h
theorem r_exr3 {P : Int → Int → Nat → Prop} (h1 : -(2 ^ 62) ≤ i ∧ i < 2 ^ 62 ∧ -(2 ^ 62) ≤ j ∧ j < 2 ^ 62) (h : P i (-1) (i - j).toNat) : ∃ (k l c : Int) (n : Nat), [V.int i, V.int j, V.int (-1)] = [.int k, .int l, .int c] ∧ RgC k l c n ∧ P k c n := ⟨i, j, -1, _, rfl, RgC.neg h1.1 h1.2.1 h1.2.2.1 h1.2.2.2, h⟩
theorem r_izip {R : It → Hp → Prop} (h : tas σ H fun vs H1 => ∃ a b xs ys, vs = [.ref a, .ref b] ∧ SqL K H1 a xs ∧ SqL K H1 b ys ∧ R (Itz K a b) H1) : iZip K tas σ H R := h
theorem r_exz {P : Addr → Addr → Prop} {b : Addr} {ys : List V} (h1 : SqL K H a xs) (h2 : SqL K H b ys) (h : P a b) : ∃ c d xs ys, [V.ref a, V.ref b] = [.ref c, .ref d] ∧ SqL K H c xs ∧ SqL K H d ys ∧ P c d := ⟨a, b, xs, ys, rfl, h1, h2, h⟩
theorem r_ienum {R : It → Hp → Prop} (h : tas σ H fun vs H1 => ∃ a xs, vs = [.ref a] ∧ SqL K H1 a xs ∧ R (Ite K a) H1) : iEnum K tas σ H R := h
theorem r_exen {P : Addr → Prop} (h1 : SqL K H a xs) (h : P a) : ∃ c xs, [V.ref a] = [.ref c] ∧ SqL K H c xs ∧ P c := ⟨a, xs, rfl, h1, h⟩
theorem r_yes (h : QB true H) : tYes σ H QB := h
theorem r_yes1 {A B : Prop} (h : A) : if true = true then A else B := iteT h
/-! built-ins by values -/
theorem r_len {P : List V → Prop} (h : SqL K H p xs) (q : P xs) : ∃ r ys, [V.ref p] = [.ref r] ∧ (SqL K H r ys ∨ SqT K H r ys) ∧ P ys := ⟨p, xs, rfl, .inl h, q⟩
theorem r_lenT {P : List V → Prop} (h : SqT K H p xs) (q : P xs) : ∃ r ys, [V.ref p] = [.ref r] ∧ (SqL K H r ys ∨ SqT K H r ys) ∧ P ys := ⟨p, xs, rfl, .inr h, q⟩
theorem r_int1 {P : Int → Prop} {P' : Prop} (q : P i) : (∃ k, [V.int i] = [.int k] ∧ P k) ∨ P' := .inl ⟨i, rfl, q⟩
theorem r_int2 {P : Int → Prop} (q : P i) : ∃ k, [V.int i] = [.int k] ∧ P k := ⟨i, rfl, q⟩
theorem r_int3 {P : Int → Int → Prop} (q : P i j) : ∃ k l, [V.int i, V.int j] = [.int k, .int l] ∧ P k l := ⟨i, j, rfl, q⟩
theorem r_all {bs : List Bool} (h : SqL K H p (bs.map V.bl)) (q : Q (.bl (bs.all id)) H) : rAll K [.ref p] H Q := ⟨p, bs, rfl, h, q⟩
theorem r_any {bs : List Bool} (h : SqL K H p (bs.map V.bl)) (q : Q (.bl (bs.any id)) H) : rAny K [.ref p] H Q := ⟨p, bs, rfl, h, q⟩
theorem r_allB {bs : List Bool} {b : Bool} (h : SqL K H p (bs.map V.bl)) (e : bs.all id = b) (q : Q (.bl b) H) : rAll K [.ref p] H Q := ⟨p, bs, rfl, h, by rw [e]; exact q⟩
theorem r_anyB {bs : List Bool} {b : Bool} (h : SqL K H p (bs.map V.bl)) (e : bs.any id = b) (q : Q (.bl b) H) : rAny K [.ref p] H Q := ⟨p, bs, rfl, h, by rw [e]; exact q⟩
theorem r_isi {b : Bool} {t u : Value} {c : V} (h1 : ClsV c u) (h2 : TyX K H x t) (h3 : PySem.W.kitOne K t u = some b) (q : Q (.bl b) H) : rIsi K [x, c] H Q := ⟨x, c, t, u, b, rfl, h1, h2, h3, q⟩
theorem r_make {sp : Sp} {dvs : List V} {E : XK} {Cc : Addr} (h : tas σ H fun vs H1 => ∀ x dx, H1 x = none → H1 dx = none → dx ≠ x → sp (.ref x :: (vs ++ dvs)) (upd (upd H1 dx (.own x)) x (.ins Cc dx [])) (fun v H2 => v = .non ∧ Q (.ref x) H2) E) : tMake Cc sp dvs E tas σ H Q := h
theorem r_meth {sp : Sp} {dvs : List V} {E : XK} {Cc : Addr} {m : Str} (h : ta σ H fun x H1 => ∃ a dx fs, x = .ref a ∧ H1 a = some (.ins Cc dx fs) ∧ fs.lookup m = none ∧ tas σ H1 fun vs H2 => sp (x :: (vs ++ dvs)) H2 Q E) : tMeth Cc m sp dvs E ta tas σ H Q := h
theorem r_prop {sp : Sp} {dvs : List V} {E : XK} {Cc : Addr} (h : ta σ H fun x H1 => ∃ a dx fs, x = .ref a ∧ H1 a = some (.ins Cc dx fs) ∧ sp (.ref a :: dvs) H1 Q E) : tProp Cc sp dvs E ta σ H Q := h
end
abbrev rLenX (K : PySem.W.Frag) : List V → Hp → VK → Prop := fun xs H Q => ∃ p ys, xs = [.ref p] ∧ (SqL K H p ys ∨ SqT K H p ys) ∧ Q (.int ys.length) H
abbrev rListX (K : PySem.W.Frag) : List V → Hp → VK → Prop := fun xs H Q => ∃ p ys, xs = [.ref p] ∧ (SqL K H p ys ∨ SqT K H p ys) ∧ ∀ l, H l = none → Q (.ref l) (upd H l (.lst ys))
abbrev rMax2X : List V → Hp → VK → Prop := fun xs H Q => ∃ i j, xs = [.int i, .int j] ∧ Q (.int (if j > i then j else i)) H
abbrev rMin2X : List V → Hp → VK → Prop := fun xs H Q => ∃ i j, xs = [.int i, .int j] ∧ Q (.int (if j < i then j else i)) H
/-! ## operators -/
section
variable {X : Cx}
/-- x ** n of any size below 2 ^ 27 bits -/
def CPowW (i j : Int) : Prop := 0 ≤ j ∧ (Builtin.Int.intBits i : Int) * j ≤ 2 ^ 27
theorem op_powW : OpR X (binaryOp .Pow) (rI CPowW fun i j => .int (i ^ j.toNat)) := opI fun _ _ _ _ _ _ _ hc q => pow_int hc.1 hc.2 q
theorem powW {i j : Int} {b : Nat} (h0 : 0 ≤ j) (hj : j ≤ 100) (hb : i.natAbs < 2 ^ b) (h : b ≤ 1000000) (h1 : 0 < b) : CPowW i j := by
  refine ⟨h0, ?_⟩
  have h2 : Builtin.Int.intBits i ≤ b := by
    unfold Builtin.Int.intBits
    have := PySem.Flt.log2_lt_of h1 hb
    split <;> omega
  have h3 : (Builtin.Int.intBits i : Int) ≤ 1000000 := by omega
  have h4 : (Builtin.Int.intBits i : Int) * j ≤ 1000000 * 100 := Int.mul_le_mul h3 hj h0 (by decide)
  omega
theorem pow10 {j : Int} (h : 0 ≤ j ∧ j ≤ 100) : CPowW 10 j := powW (b := 4) h.1 h.2 (by decide) (by decide) (by decide)
theorem natAbs_lt {x : Int} {n : Nat} (h0 : -(2 ^ n) < x) (h : x < 2 ^ n) : x.natAbs < 2 ^ n := by
  have e : ((2 ^ n : Nat) : Int) = (2 : Int) ^ n := by simp
  omega
end
theorem smalllt' {n : Nat} (h : n ≤ 99999) : n < PySem.sizeLine := Nat.lt_of_lt_of_le (show n < 100000 by omega) (by decide)
theorem small1000' {n : Nat} (h : n ≤ 100000) : n ≤ PySem.sizeLine := Nat.le_trans h (by decide)
set_option Elab.async false
set_option linter.all false
set_option maxRecDepth 100000
set_option maxHeartbeats 4000000
/-! ## facts of the top, by names -/
def propB (K : PySem.W.Frag) (C : Addr) (f : Str) : Bool := match PySem.W.findIn K (.ref C) f with
  | some (some (.ref p)) => He.eqO (PySem.W.specialIn K (.ref p) "__get__") (some (some (.builtin "property.__get__"))) && (decide (PySem.W.takesIn K (.ref p) = some true) && (match PySem.W.recIn K p "property" with
    | some (.ref _ :: _) => true
    | _ => false))
  | _ => false
/-- the getter of a property -/
def pgA (C f : Str) (K : PySem.W.Frag) : Addr := match PySem.W.findIn K (.ref (He.ga K C)) f with
  | some (some (.ref p)) => (match PySem.W.recIn K p "property" with
    | some (.ref g :: _) => g
    | _ => 0)
  | _ => 0
theorem propB_ok {K : PySem.W.Frag} {C f : Str} (h : propB K (He.ga K C) f = true) : ∃ p, PropOf K (He.ga K C) f p (pgA C f K) := by
  unfold propB at h
  unfold pgA
  cases e : PySem.W.findIn K (.ref (He.ga K C)) f with
  | none =>
    rw [e] at h
    cases h
  | some r =>
    cases r with
    | none =>
      rw [e] at h
      cases h
    | some u =>
      cases u with
      | ref p =>
        rw [e] at h
        dsimp only at h ⊢
        obtain ⟨h1, h2⟩ := He.ba h
        obtain ⟨h3, h4⟩ := He.ba h2
        cases e2 : PySem.W.recIn K p "property" with
        | none =>
          rw [e2] at h4
          cases h4
        | some l =>
          rw [e2] at h4
          cases l with
          | nil => cases h4
          | cons g r =>
            cases g with
            | ref g => exact ⟨p, e, He.eqO_ok h1, of_decide_eq_true h3, r, e2⟩
            | _ => cases h4
      | _ =>
        rw [e] at h
        cases h
inductive Fb where
  | b (f : He.Fa)
  | prop (C f : Str)
  | findB (C m : Str) (id : String)
  | isi (C : Str)
  | kit (C D : Str) (r : Bool)
  | tyc (C : Str)
def Fb.ok (K : PySem.W.Frag) : Fb → Bool
  | .b f => f.ok K
  | .prop C f => propB K (He.ga K C) f
  | .findB C m id => He.eqO (PySem.W.findIn K (.ref (He.ga K C)) m) (some (some (.builtin id)))
  | .isi C => He.eqO (PySem.W.findIn K (.ref (He.ga K C)) "__class__") (some (some (.builtin "object.__class__"))) && (He.eqO (PySem.W.specialIn K (.builtin "object.__class__") "__get__") (some (some (.builtin "getset_descriptor.__get__"))) &&
      (decide (PySem.W.takesIn K (.builtin "object.__class__") = some true) && decide (PySem.W.mroIn K (He.ga K C) (.type "object") = some true)))
  | .kit C D r => decide (PySem.W.kitOne K (.ref (He.ga K C)) (.ref (He.ga K D)) = some r)
  | .tyc C => (PySem.W.clsIn K (He.ga K C)).isSome && decide (PySem.W.typeIn K (.ref (He.ga K C)) = some (.type "type"))
/-- a def: its address by names -/
structure Df where
  at_ : PySem.W.Frag → Addr
  name : Str
  qual : Str
  st : Stmt
def Df.da (d : Df) : He5.DefA := ⟨d.at_, d.name, d.qual, defArgs d.st, defBody d.st, defScope d.st, [], []⟩
def obsM (fa : List Fb) (fn : List Df) (K : PySem.W.Frag) : He.AlD := ((fa.all fun f => f.ok K) && fn.all fun d => d.da.ok K, fn.map fun d => He5.fnA K (d.at_ K))
def valM (fn : List Df) : He.AlD := (true, fn.map fun d => d.da.val)
def SaysM (fa : List Fb) (fn : List Df) (K : PySem.W.Frag) : Prop := obsM fa fn K = valM fn
def obsMG (n : Nat) (fa : List Fb) (fn : List Df) (g : Addr → Option Obj) : He.AlD := obsM fa fn (He.frG g (He5.asA g n))
def hookM (n : Nat) (fa : List Fb) (fn : List Df) : PySem.W.Hook where
  α := He.AlD
  obs := fun s => obsMG n fa fn s.heap.get?
  val := fun _ => valM fn
  says := fun _ h => ∃ K : PySem.W.Frag, K.In h ∧ SaysM fa fn K
  of := fun _ _ e => ⟨_, He.frG_in, e⟩
  keeps := fun _ _ _ ⟨K, hK, c⟩ k => ⟨K, PySem.W.Frag.In.keeps hK k, c⟩
theorem obsMG_eq {n : Nat} {fa : List Fb} {fn : List Df} {g : Addr → Option Obj} {s : Shared} (h : ∀ a, g a = s.heap.get? a) : obsMG n fa fn g = (hookM n fa fn).obs s := by
  have e : g = s.heap.get? := funext h
  rw [e] <;> rfl
/-- the top's facts, the base heap -/
structure Tx (fa : List Fb) (fn : List Df) (K : PySem.W.Frag) (mg : Str → Option Value) (base : Heap) : Prop where
  says : SaysM fa fn K
  kin : K.In base
  ns : base.Ns mainGlobals mg
section
variable {fa : List Fb} {fn : List Df} {K : PySem.W.Frag} {mg : Str → Option Value} {base : Heap} {P : Program} {w : World}
theorem Tx.fact (T : Tx fa fn K mg base) (i : Nat) {f : Fb} (h : fa[i]? = some f := by rfl) : f.ok K = true := by
  have c1 := (He.ba (show ((fa.all fun f => f.ok K) && fn.all fun d => d.da.ok K) = true from congrArg (fun z : He.AlD => z.1) T.says)).1
  exact List.all_eq_true.mp c1 f (List.mem_of_getElem? h)
theorem Tx.def_ (T : Tx fa fn K mg base) (i : Nat) {d : Df} (h : fn[i]? = some d := by rfl) : ∃ fd, FunD K d.name d.qual (defArgs d.st) (defBody d.st) (defScope d.st) [] [] (d.at_ K) fd := by
  have c2 := (He.ba (show ((fa.all fun f => f.ok K) && fn.all fun d => d.da.ok K) = true from congrArg (fun z : He.AlD => z.1) T.says)).2
  have e : fn.map (fun d => He5.fnA K (d.at_ K)) = fn.map (fun d => d.da.val) := congrArg (fun z : He.AlD => z.2) T.says
  have e2 : (fn.map fun d => He5.fnA K (d.at_ K))[i]? = (fn.map fun d => d.da.val)[i]? := by rw [e]
  rw [List.getElem?_map, List.getElem?_map, h] at e2
  exact He5.DefA.funD (d := d.da) (Option.some.inj e2) (List.all_eq_true.mp c2 d (List.mem_of_getElem? h))
theorem Tx.fr (T : Tx fa fn K mg base) (i : Nat) {x : Str} (h : fa[i]? = some (.b (.free x)) := by rfl) : mg x = none := He.free_ok T.kin T.ns (T.fact i h)
theorem Tx.glo (T : Tx fa fn K mg base) (i : Nat) {x : Str} (h : fa[i]? = some (.b (.glo x)) := by rfl) : mg x = some (.ref (He.ga K x)) := He.glo_ok T.kin T.ns (T.fact i h)
theorem Tx.int (T : Tx fa fn K mg base) (i : Nat) {x : Str} {n : Int} (h : fa[i]? = some (.b (.int x n)) := by rfl) : ∃ t, mg x = some (.int n t) := He.int_ok T.kin T.ns (T.fact i h)
theorem Tx.cls (T : Tx fa fn K mg base) (i : Nat) {x : Str} (h : fa[i]? = some (.b (.cls x)) := by rfl) : Cls K (He.ga K x) := He.cls_ok (T.fact i h)
theorem Tx.noat (T : Tx fa fn K mg base) (i : Nat) {x f : Str} (h : fa[i]? = some (.b (.noat x f)) := by rfl) : NoAttr K (He.ga K x) f := He.noat_ok (T.fact i h)
theorem Tx.meth (T : Tx fa fn K mg base) (i : Nat) {x m : Str} (h : fa[i]? = some (.b (.meth x m)) := by rfl) : Meth K (He.ga K x) m (He.ma K (He.ga K x) m) := He.meth_ok (T.fact i h)
theorem Tx.mkr (T : Tx fa fn K mg base) (i : Nat) {x : Str} (h : fa[i]? = some (.b (.mkr x)) := by rfl) : Mk K (He.ga K x) (He.ma K (He.ga K x) "__init__") := He.mkr_ok (T.fact i h)
theorem Tx.prop (T : Tx fa fn K mg base) (i : Nat) {C f : Str} (h : fa[i]? = some (.prop C f) := by rfl) : ∃ p, PropOf K (He.ga K C) f p (pgA C f K) := propB_ok (T.fact i h)
theorem Tx.findB (T : Tx fa fn K mg base) (i : Nat) {C m : Str} {id : String} (h : fa[i]? = some (.findB C m id) := by rfl) : PySem.W.findIn K (.ref (He.ga K C)) m = some (some (.builtin id)) := He.eqO_ok (T.fact i h)
theorem Tx.kit (T : Tx fa fn K mg base) (i : Nat) {C D : Str} {r : Bool} (h : fa[i]? = some (.kit C D r) := by rfl) : PySem.W.kitOne K (.ref (He.ga K C)) (.ref (He.ga K D)) = some r := of_decide_eq_true (T.fact i h)
theorem Tx.isi (T : Tx fa fn K mg base) (i j : Nat) {C : Str} {H : Hp} {a dx : Addr} {fs : List (Str × V)} (e : H a = some (.ins (He.ga K C) dx fs)) (h : fa[i]? = some (.isi C) := by rfl) (hj : fa[j]? = some (.b (.cls C)) := by rfl) : TyX K H (.ref a) (.ref (He.ga K C)) := by
  obtain ⟨h1, h2⟩ := He.ba (T.fact i h)
  obtain ⟨h3, h4⟩ := He.ba h2
  obtain ⟨h5, h6⟩ := He.ba h4
  exact .base (.ins e (T.cls j hj) (He.eqO_ok h1) (He.eqO_ok h3) (of_decide_eq_true h5) (of_decide_eq_true h6))
theorem Tx.tyc (T : Tx fa fn K mg base) (i : Nat) {C : Str} {t : Value} {r : Bool} (n : (t == .ref (He.ga K C)) = false) (e : PySem.W.subIn K t (.ref (He.ga K C)) = some r) (h : fa[i]? = some (.tyc C) := by rfl) : PySem.W.kitOne K t (.ref (He.ga K C)) = some r := by
  obtain ⟨h1, h2⟩ := He.ba (T.fact i h)
  have h3 := of_decide_eq_true h2
  unfold PySem.W.kitOne
  rw [n, if_neg (by decide)]
  unfold PySem.W.kitCls
  dsimp only
  rw [h1, h3, if_pos (by decide)]
  exact e
theorem Tx.mroI (T : Tx fa fn K mg base) (i : Nat) {C : Str} (h : fa[i]? = some (.isi C) := by rfl) : PySem.W.mroIn K (He.ga K C) (.type "object") = some true := by
  obtain ⟨_, h2⟩ := He.ba (T.fact i h)
  obtain ⟨_, h4⟩ := He.ba h2
  obtain ⟨_, h6⟩ := He.ba h4
  exact of_decide_eq_true h6
/-! ## defs with their promises, by names -/
structure Fk (P : Program) (w : World) (K : PySem.W.Frag) (mg : Str → Option Value) (base : Heap) (x : Str) (ps : List Str) (k : Nat) (sp : Sp) (st : Stmt) (q : Str) : Prop where
  ex : ∃ (f : Addr) (fd : FuncData), FnOk P w K mg base CX0 k f fd ps sp ∧ mg x = some (.ref f) ∧ PySem.W.keepIn K (.ref f) = true ∧ Binds K fd ps [] ∧ FunD K x q (defArgs st) (defBody st) (defScope st) [] [] f fd
structure Mth (P : Program) (w : World) (K : PySem.W.Frag) (mg : Str → Option Value) (base : Heap) (C : Addr) (m : Str) (ps : List Str) (k : Nat) (sp : Sp) (st : Stmt) (q : Str) : Prop where
  ex : ∃ (f : Addr) (fd : FuncData), FnOk P w K mg base CX0 k f fd ps sp ∧ Meth K C m f ∧ Binds K fd ps [] ∧ Cls K C ∧ FunD K m q (defArgs st) (defBody st) (defScope st) [] [] f fd
structure Ini (P : Program) (w : World) (K : PySem.W.Frag) (mg : Str → Option Value) (base : Heap) (C : Addr) (ps : List Str) (k : Nat) (sp : Sp) (st : Stmt) (q : Str) : Prop where
  ex : ∃ (f : Addr) (fd : FuncData), FnOk P w K mg base CX0 k f fd ps sp ∧ Mk K C f ∧ Binds K fd ps [] ∧ FunD K "__init__" q (defArgs st) (defBody st) (defScope st) [] [] f fd
structure Prp (P : Program) (w : World) (K : PySem.W.Frag) (mg : Str → Option Value) (base : Heap) (C : Addr) (x : Str) (k : Nat) (sp : Sp) : Prop where
  ex : ∃ (p g : Addr) (fd : FuncData), FnOk P w K mg base CX0 k g fd ["self"] sp ∧ PropOf K C x p g ∧ Binds K fd ["self"] [] ∧ Cls K C
/-- what a def's proof is made of -/
def BndOk (d : Df) (ps : List Str) : Prop := ∀ (kV doc pm : Value) (an : Option Addr) (cdv ct : Value) (us : List Value), us.length = ps.length → bindArgs (PySem.W.fnOf d.name d.qual (defArgs d.st) (defBody d.st) (defScope d.st) .none kV doc pm an cdv ct) ⟨us, []⟩ = pure (ps.zip us)
def BodyOk (P : Program) (w : World) (K : PySem.W.Frag) (mg : Str → Option Value) (base : Heap) (d : Df) (N : List Str) (k : Nat) (sp : Sp) : Prop :=
  ∀ (cdv : Value) (A : Around) (outer : List Env) (s : Shared) (H : Hp) (vs : List V) (Q : VK) (E : XK), Room k (A.deeper (envOfC d.qual (defScope d.st) s.heap.objs.size (d.at_ K) cdv)) → sp vs H Q E →
      ∃ t, PSs (cxOf CX0 P w K mg base N d.qual (defScope d.st) (d.at_ K) cdv A outer s H E).nox (defBody d.st) t ∧ t { nx := fun _ H' => Q .non H', rt := Q } (start N vs) H
theorem Tx.ok (T : Tx fa fn K mg base) (i : Nat) {d : Df} {N ps : List Str} {k : Nat} {sp : Sp} (S : FnScope N ps (defScope d.st)) (hb : BndOk d ps) (len : ∀ vs H Q E, sp vs H Q E → vs.length = ps.length) (body : BodyOk P w K mg base d N k sp) (hd : fn[i]? = some d := by rfl) :
    ∃ fd, FnOk P w K mg base CX0 (k + 1) (d.at_ K) fd ps sp ∧ PySem.W.keepIn K (.ref (d.at_ K)) = true ∧ Binds K fd ps [] ∧ FunD K d.name d.qual (defArgs d.st) (defBody d.st) (defScope d.st) [] [] (d.at_ K) fd := by
  obtain ⟨fd, F⟩ := T.def_ i hd
  refine ⟨fd, F.ok S len fun cdv A outer s H vs Q E hr h => ?_, F.kp, F.bindsN hb, F⟩
  obtain ⟨t, h1, h2⟩ := body cdv A outer s H vs Q E hr h
  exact ⟨t, PSs.nox h1, h2⟩
theorem Tx.fk (T : Tx fa fn K mg base) (i j : Nat) {x q : Str} {st : Stmt} {N ps : List Str} {k : Nat} {sp : Sp} (S : FnScope N ps (defScope st)) (hb : BndOk ⟨fun K => He.ga K x, x, q, st⟩ ps) (len : ∀ vs H Q E, sp vs H Q E → vs.length = ps.length)
    (body : BodyOk P w K mg base ⟨fun K => He.ga K x, x, q, st⟩ N k sp) (hd : fn[i]? = some ⟨fun K => He.ga K x, x, q, st⟩ := by rfl) (hg : fa[j]? = some (.b (.glo x)) := by rfl) : Fk P w K mg base x ps (k + 1) sp st q := by
  obtain ⟨fd, F, kp, b, fu⟩ := T.ok i (d := ⟨fun K => He.ga K x, x, q, st⟩) S hb len body hd
  exact ⟨_, fd, F, T.glo j hg, kp, b, fu⟩
theorem Tx.mth (T : Tx fa fn K mg base) (i j c : Nat) {C m q : Str} {st : Stmt} {N ps : List Str} {k : Nat} {sp : Sp} (S : FnScope N ps (defScope st)) (hb : BndOk ⟨fun K => He.ma K (He.ga K C) m, m, q, st⟩ ps) (len : ∀ vs H Q E, sp vs H Q E → vs.length = ps.length)
    (body : BodyOk P w K mg base ⟨fun K => He.ma K (He.ga K C) m, m, q, st⟩ N k sp) (hd : fn[i]? = some ⟨fun K => He.ma K (He.ga K C) m, m, q, st⟩ := by rfl) (hg : fa[j]? = some (.b (.meth C m)) := by rfl) (hc : fa[c]? = some (.b (.cls C)) := by rfl) : Mth P w K mg base (He.ga K C) m ps (k + 1) sp st q := by
  obtain ⟨fd, F, kp, b, fu⟩ := T.ok i (d := ⟨fun K => He.ma K (He.ga K C) m, m, q, st⟩) S hb len body hd
  exact ⟨_, fd, F, T.meth j hg, b, T.cls c hc, fu⟩
theorem Tx.ini (T : Tx fa fn K mg base) (i j : Nat) {C q : Str} {st : Stmt} {N ps : List Str} {k : Nat} {sp : Sp} (S : FnScope N ps (defScope st)) (hb : BndOk ⟨fun K => He.ma K (He.ga K C) "__init__", "__init__", q, st⟩ ps) (len : ∀ vs H Q E, sp vs H Q E → vs.length = ps.length)
    (body : BodyOk P w K mg base ⟨fun K => He.ma K (He.ga K C) "__init__", "__init__", q, st⟩ N k sp) (hd : fn[i]? = some ⟨fun K => He.ma K (He.ga K C) "__init__", "__init__", q, st⟩ := by rfl) (hg : fa[j]? = some (.b (.mkr C)) := by rfl) : Ini P w K mg base (He.ga K C) ps (k + 1) sp st q := by
  obtain ⟨fd, F, kp, b, fu⟩ := T.ok i (d := ⟨fun K => He.ma K (He.ga K C) "__init__", "__init__", q, st⟩) S hb len body hd
  exact ⟨_, fd, F, T.mkr j hg, b, fu⟩
theorem Tx.prp (T : Tx fa fn K mg base) (i j c : Nat) {C m q : Str} {st : Stmt} {N : List Str} {k : Nat} {sp : Sp} (S : FnScope N ["self"] (defScope st)) (hb : BndOk ⟨pgA C m, m, q, st⟩ ["self"]) (len : ∀ vs H Q E, sp vs H Q E → vs.length = ["self"].length)
    (body : BodyOk P w K mg base ⟨pgA C m, m, q, st⟩ N k sp) (hd : fn[i]? = some ⟨pgA C m, m, q, st⟩ := by rfl) (hg : fa[j]? = some (.prop C m) := by rfl) (hc : fa[c]? = some (.b (.cls C)) := by rfl) : Prp P w K mg base (He.ga K C) m (k + 1) sp := by
  obtain ⟨fd, F, kp, b, fu⟩ := T.ok i (d := ⟨pgA C m, m, q, st⟩) S hb len body hd
  obtain ⟨p, hp⟩ := T.prop j hg
  exact ⟨p, _, fd, F, hp, b, T.cls c hc⟩
end
/-! ## calls by names -/
section
variable {X : Cx} {x m q : Str} {st : Stmt} {ps : List Str} {k j : Nat} {sp : Sp} {p pos apos : Pos} {e o : Expr} {es : List Expr} {t : TA} {ta : TE} {C : Addr}
theorem pe_f (h : Fk X.prog X.w X.K X.mg X.base x ps k sp st q) (hr : Room j X.A) (ha : PA X (e :: es) t) (hj : k ≤ j := by decide) (hg : Gl X x := by rfl) (hdb : (x == ("__debug__" : Str)) = false := by decide)
    (he : starEach (e :: es) X.env = (false, eval e X.env) :: starEach es X.env := by rfl) (hpl : (backTo pos (starEach es X.env)).any (·.1) = false := by rfl) : PE X (.Call (.Name x p) (e :: es) [] pos) (tCall sp [] E0 t) := by
  obtain ⟨f, fd, F, hm, kp, b, _⟩ := h.ex
  exact pe_call F (hr.mono hj) hg hm kp b .nil pass0 ha hdb he hpl
theorem pe_m {pl : Sem Bool} (ho : PE X o ta) (h : Mth X.prog X.w X.K X.mg X.base C m ps k sp st q) (hr : Room j X.A) (ha : PA X (e :: es) t) (hj : k ≤ j := by decide)
    (hst : starEach (e :: es) X.env = (false, eval e X.env) :: starEach es X.env := by rfl) (hpl : (backTo pos (starEach es X.env)).any (·.1) = false := by rfl)
    (ht : eval (.Call (.Attribute o m apos) (e :: es) [] pos) X.env = (do
      let ov ← eval o X.env
      standAt apos.atName
      let (f, first) ← holding [ov] (getMethod ov m pl)
      callWith pos f first (backTo pos (starEach (e :: es) X.env)) (backToKw pos (keywordEach [] X.env))) := by rfl) : PE X (.Call (.Attribute o m apos) (e :: es) [] pos) (tMeth C m sp [] E0 ta t) := by
  obtain ⟨f, fd, F, hm, b, c, _⟩ := h.ex
  exact pe_meth ho c hm F (hr.mono hj) b .nil pass0 ha hst hpl ht
theorem pe_m0 {pl : Sem Bool} (ho : PE X o ta) (h : Mth X.prog X.w X.K X.mg X.base C m ps k sp st q) (hr : Room j X.A) (hj : k ≤ j := by decide)
    (ht : eval (.Call (.Attribute o m apos) [] [] pos) X.env = (do
      let ov ← eval o X.env
      standAt apos.atName
      let (f, first) ← holding [ov] (getMethod ov m pl)
      callWith pos f first (backTo pos (starEach [] X.env)) (backToKw pos (keywordEach [] X.env))) := by rfl) : PE X (.Call (.Attribute o m apos) [] [] pos) (tMeth C m sp [] E0 ta tNil) := by
  obtain ⟨f, fd, F, hm, b, c, _⟩ := h.ex
  exact pe_meth0 ho c hm F (hr.mono hj) b .nil pass0 ht
theorem pe_mk (h : Ini X.prog X.w X.K X.mg X.base C ps k sp st q) (hm : X.mg x = some (.ref C)) (hr : Room j X.A) (ha : PA X (e :: es) t) (hj : k + 1 ≤ j := by decide) (hg : Gl X x := by rfl) (hdb : (x == ("__debug__" : Str)) = false := by decide)
    (he : starEach (e :: es) X.env = (false, eval e X.env) :: starEach es X.env := by rfl) (hpl : (backTo pos (starEach es X.env)).any (·.1) = false := by rfl) : PE X (.Call (.Name x p) (e :: es) [] pos) (tMake C sp [] E0 t) := by
  obtain ⟨f, fd, F, M, b, _⟩ := h.ex
  exact pe_make M F (hr.mono hj) hg hm b .nil pass0 ha hdb he hpl
/-- how keywords bind, by the def's own text -/
def KwOk (x q : Str) (st : Stmt) (ps ks : List Str) (n : Nat) (g : {α : Type} → List α → List α → List α) : Prop :=
  ∀ (kV doc pm : Value) (an : Option Addr) (cdv ct : Value) (us ws : List Value), us.length = n → ws.length = ks.length → bindArgs (PySem.W.fnOf x q (defArgs st) (defBody st) (defScope st) .none kV doc pm an cdv ct) ⟨us, ks.zip ws⟩ = pure (ps.zip (g us ws))
theorem kw_to {K : PySem.W.Frag} {x q : Str} {st : Stmt} {ps ks : List Str} {n : Nat} {g : {α : Type} → List α → List α → List α} {f : Addr} {fd : FuncData} (F : FunD K x q (defArgs st) (defBody st) (defScope st) [] [] f fd) (h : KwOk x q st ps ks n g) :
    ∀ (s : Shared) (us ws : List Value), us.length = n → ws.length = ks.length → BindsTo s fd ⟨us, ks.zip ws⟩ (ps.zip (g us ws)) := by
  obtain ⟨oc, od, dV, kV, doc, pm, an, cdv, ct, osl, rfl, lk, hcd, hD, hK⟩ := F.ex
  intro s us ws h1 h2
  rcases hD with ⟨_, rfl⟩ | ⟨e, _⟩
  · exact .of_eq (h kV doc pm an cdv ct us ws h1 h2)
  · exact absurd rfl e
/-- o.m(k = e, ..) -/
def tMethK (C : Addr) (m : Str) (n : Nat) (sp : Sp) (g : List V → List V → List V) (ta : TE) (tk : TA) : TE := fun σ H Q => ta σ H fun x H1 => ∃ a dx fs, x = .ref a ∧ H1 a = some (.ins C dx fs) ∧ fs.lookup m = none ∧ tk σ H1 fun zs H2 => zs.length = n ∧ sp (g [x] zs) H2 Q E0
theorem pe_mK {pl : Sem Bool} {kws : List Keyword} {tk : TA} {ks : List Str} {g : {α : Type} → List α → List α → List α} (ho : PE X o ta) (h : Mth X.prog X.w X.K X.mg X.base C m ps k sp st q) (hr : Room j X.A) (kb : KwOk m q st ps ks 1 g)
    (rel : ∀ {vs : List V} {us : List Value} {zs : List V} {ws : List Value}, Vals vs us → Vals zs ws → zs.length = ks.length → vs.length = 1 → Vals (g vs zs) (g us ws)) (hkw : PK X kws tk) (hj : k ≤ j := by decide)
    (hall : (backToKw pos (keywordEach kws X.env)).all (·.1.isSome) = true := by rfl) (hks : (backToKw pos (keywordEach kws X.env)).filterMap (·.1) = ks := by rfl)
    (hpl : ((backTo pos (starEach [] X.env)).any (·.1) || (backToKw pos (keywordEach kws X.env)).any (·.1.isNone)) = false := by rfl)
    (ht : eval (.Call (.Attribute o m apos) [] kws pos) X.env = (do
      let ov ← eval o X.env
      standAt apos.atName
      let (f, first) ← holding [ov] (getMethod ov m pl)
      callWith pos f first (backTo pos (starEach [] X.env)) (backToKw pos (keywordEach kws X.env))) := by rfl) : PE X (.Call (.Attribute o m apos) [] kws pos) (tMethK C m ks.length sp g ta tk) := by
  obtain ⟨f, fd, F, hm, b, c, fu⟩ := h.ex
  have to := kw_to fu kb
  refine ⟨fun pins s σ H Q I h => ?_⟩
  refine PySem.W.methodCall_KW (pl := pl) (thn (ho.run pins s σ H _ I h) fun u s1 ⟨x, H1, I1, rx, a, dx, fs, ex, ea, l, q1⟩ => ?_) ht
  subst ex
  obtain rfl : u = Value.ref a := rx
  refine getmeth_ok I1 ea c hm l ?_
  refine PySem.W.callWith_KW0 (h₀ := X.base) (first := [.ref a]) I.ok.mod.kin hm.kp hall (thn (hkw.run pos pins s1 σ H1 _ I1 q1) fun ws s2 ⟨zs, H2, I2, rz, hz, q2⟩ => ⟨I2.kIn, ?_⟩) hpl
  rw [hks]
  have r0 : Vals [V.ref a] [Value.ref a] := .cons rfl .nil
  have r2 := rel r0 rz hz rfl
  refine wpAny_call (codeAny_mono (F.run X.A X.stack s2 H2 ⟨[.ref a], ks.zip ws⟩ (g [.ref a] ws) (g [.ref a] zs) Q E0 (hr.mono hj) I2.env0 (to s2 [.ref a] ws rfl (rz.length.symm.trans hz)) r2 q2) fun r s' hq => ?_)
  cases r with
  | error e => exact hq.elim
  | ok fl =>
    cases fl with
    | ret u => exact I2.after hq
    | next => exact False.elim hq
    | brk => exact False.elim hq
    | cont => exact False.elim hq
theorem pe_pr (he : PE X o ta) (h : Prp X.prog X.w X.K X.mg X.base C x k sp) (hr : Room j X.A) (hj : k + 1 ≤ j := by decide) (hab : attributeBase o x X.env (eval o X.env) = eval o X.env := by rfl) : PE X (.Attribute o x pos) (tProp C sp [] E0 ta) := by
  obtain ⟨p, g, fd, F, hp, b, c⟩ := h.ex
  exact pe_prop he c hp F (hr.mono hj) b .nil pass0 hab
end
set_option Elab.async false
set_option linter.all false
set_option maxRecDepth 100000
set_option maxHeartbeats 4000000
section
variable {X : Cx}
theorem pe_globI {x : Str} {n : Int} {pos : Pos} (h : ∃ t, X.mg x = some (.int n t)) (hg : Gl X x := by rfl) (hd : (x == ("__debug__" : Str)) = false := by decide) : PE X (.Name x pos) (tC (.int n)) := by
  obtain ⟨t, e⟩ := h
  exact pe_glob hg e ⟨t, rfl⟩ hd
end
/-! ## comprehensions -/
section
variable {J : It} {n : Nat} {GG : Hp → Prop} {Y : Nat → Hp → V → Hp → Prop} {g : TG} {te : TE} {vs : List Nat} {σ : L2.St} {H1 : Hp} {Q : VK}
theorem Fr.mut {J : List Addr} {H H1 : Hp} {p : Addr} {o : HO} (a : Fr J H H1) (hp : H p = none) : Fr J H (upd H1 p o) := fun x u hx h => by
  rw [upd_ne (ne_of_none h hp)]
  exact a x u hx h
/-- a list made item by item, nothing that stood changed -/
theorem lc_pure (w : Walk J n GG Y) (f : Nat → V) (hn : n ≤ 100000) (hG : ∀ H', Fr [] H1 H' → GG H') (hY : ∀ i H' x H'', Y i H' x H'' → Fr [] H' H'')
    (he : ∀ i x H' H'' (R : VK), i < n → Fr [] H1 H' → Y i H' x H'' → (∀ H4, Fr [] H'' H4 → R (f i) H4) → g x (wipe σ vs) H'' fun σ2 H2 => wipe σ2 vs = wipe σ vs ∧ te σ2 H2 R)
    (hd : ∀ D H', H1 D = none → Fr [] H1 H' → H' D = some (.lst ((List.range n).map f)) → Q (.ref D) H') : LcJ g tYes te vs σ Q J H1 := by
  intro D hD
  refine lc_it w (fun i H' => i ≤ n ∧ Fr [] H1 H' ∧ H' D = some (.lst ((List.range i).map f))) ⟨Nat.zero_le _, (Fr.refl H1).mut hD, upd_same⟩ (fun i H' _ p => hG H' p.2.1) (fun i x H' H'' hi p y => ?_) (fun H' p => hd D H' hD p.2.1 p.2.2)
  obtain ⟨p1, p2, p3⟩ := p
  have hf := hY i H' x H'' y
  refine he i x H' H'' (fun y H4 => ∃ acc, H4 D = some (.lst acc) ∧ acc.length < sizeLine ∧ (i + 1 ≤ n ∧ Fr [] H1 (upd H4 D (.lst (acc ++ [y]))) ∧ (upd H4 D (.lst (acc ++ [y]))) D = some (.lst ((List.range (i + 1)).map f)))) hi p2 y fun H4 e4 => ?_
  have e5 : Fr [] H' H4 := hf.trans e4
  refine ⟨_, e5 _ _ (fun z => nomatch z) p3, ?_, hi, (p2.trans e5).mut hD, ?_⟩
  · rw [List.length_map, List.length_range]
    exact Nat.lt_of_lt_of_le (show i < 100001 by omega) (by decide)
  · rw [upd_same, List.range_succ, List.map_append]
    rfl
end
theorem r_iteY {c A B : Prop} [Decidable c] (hc : c) (h : A) : if decide c = true then A else B := by
  rw [if_pos (decide_eq_true hc)]
  exact h
theorem r_iteZ {c A B : Prop} [Decidable c] (hc : ¬ c) (h : B) : if decide c = true then A else B := by
  rw [if_neg (fun z => hc (of_decide_eq_true z))]
  exact h
theorem r_iteNY {c A B : Prop} [Decidable c] (hc : c) (h : B) : if (!decide c) = true then A else B := iteNS hc h
theorem r_iteNZ {c A B : Prop} [Decidable c] (hc : ¬ c) (h : A) : if (!decide c) = true then A else B := by
  rw [decide_eq_false hc]
  exact iteT h
/-- the i-th number -/
def nth (ns : List Int) (i : Nat) : Int := ns.getD i 0
theorem nth_at {ns : List Int} {i : Nat} {x : V} (h : (ns.map V.int)[i]? = some x) : x = .int (nth ns i) := by
  rw [List.getElem?_map] at h
  unfold nth
  rw [List.getD_eq_getElem?_getD]
  cases e : ns[i]? with
  | none =>
    rw [e] at h
    cases h
  | some z =>
    rw [e] at h
    exact (Option.some.inj h).symm
theorem at_nth {ns : List Int} {i : Nat} (h : i < ns.length) : (ns.map V.int)[i]? = some (.int (nth ns i)) := by
  rw [List.getElem?_map, List.getElem?_eq_getElem h]
  unfold nth
  rw [List.getD_eq_getElem?_getD, List.getElem?_eq_getElem h]
  rfl
theorem getElem_nth {ns : List Int} {i : Nat} (h : i < ns.length) : ns[i] = nth ns i := by
  unfold nth
  rw [List.getD_eq_getElem?_getD, List.getElem?_eq_getElem h]
  rfl
theorem range_nth (ns : List Int) : (List.range ns.length).map (nth ns) = ns := by
  refine List.ext_getElem (by simp) fun i h1 h2 => ?_
  rw [List.getElem_map, List.getElem_range, getElem_nth h2]
theorem range_map (ns : List Int) (g : Int → Int) : (List.range ns.length).map (fun i => V.int (g (nth ns i))) = (ns.map g).map V.int := by
  have e : (fun i => V.int (g (nth ns i))) = (V.int ∘ g) ∘ nth ns := rfl
  rw [e, ← List.map_map, range_nth, List.map_map]
/-- [g(x) for x in a], nothing that stood changed -/
theorem lc_map {K : PySem.W.Frag} {a : Addr} {te : TE} {vs : List Nat} {σ : L2.St} {H1 : Hp} {Q : VK} {k : Nat} {ns : List Int} (g : Int → Int) (ha : SqL K H1 a (ns.map V.int)) (hn : ns.length ≤ 100000) (hw : ∀ x, wipe ((wipe σ vs).set k (some x)) vs = wipe σ vs)
    (he : ∀ i H' (R : VK), i < ns.length → Fr [] H1 H' → (∀ H4, Fr [] H' H4 → R (.int (g (nth ns i))) H4) → te ((wipe σ vs).set k (some (.int (nth ns i)))) H' R)
    (hd : ∀ D H', H1 D = none → Fr [] H1 H' → H' D = some (.lst ((ns.map g).map V.int)) → Q (.ref D) H') : LcJ (gName k) tYes te vs σ Q (Itl K a) H1 := by
  have e1 : (ns.map V.int).length = ns.length := List.length_map _
  refine lc_pure (walk_list (xs := ns.map V.int)) (fun i => .int (g (nth ns i))) (by omega) (fun H' e => e.sql ha (fun z => nomatch z)) (fun i H' x H'' y => by rw [y.1]; exact Fr.refl _) (fun i x H' H'' R hi e y kR => ?_) (fun D H' hD e hD' => ?_)
  · obtain ⟨rfl, hx⟩ := y
    rw [nth_at hx]
    exact ⟨hw _, he i _ R (by omega) e kR⟩
  · rw [e1, range_map] at hD'
    exact hd D H' hD e hD'
theorem cut_last (xs : List V) : cutV xs none (some (-1)) = xs.dropLast := by
  unfold cutV
  rw [List.dropLast_eq_take, show HT.sIx xs.length 0 none = 0 from rfl, List.drop_zero, show HT.sIx xs.length xs.length (some (-1)) = ((-1 : Int) + (xs.length : Int)).toNat from rfl]
  congr 1
  omega
theorem atI_nth {ns : List Int} {i : Int} (h0 : 0 ≤ i) (h : i < ns.length) : atI (ns.map V.int) i = some (.int (nth ns i.toNat)) := by
  obtain ⟨k, rfl⟩ := Int.eq_ofNat_of_zero_le h0
  rw [atI_nat (at_nth (by omega))]
  rfl
theorem atI_end {ns : List Int} (h : 0 < ns.length) : atI (ns.map V.int) (-1) = some (.int (nth ns (ns.length - 1))) := by
  have e : ns = ns.take (ns.length - 1) ++ [nth ns (ns.length - 1)] := by
    rw [← getElem_nth (show ns.length - 1 < ns.length by omega)]
    have := List.take_append_getElem (l := ns) (i := ns.length - 1) (by omega)
    rw [this, List.take_of_length_le (by omega)]
  have e2 : ns.map V.int = (ns.take (ns.length - 1)).map V.int ++ [.int (nth ns (ns.length - 1))] := by
    rw [show [V.int (nth ns (ns.length - 1))] = [nth ns (ns.length - 1)].map V.int from rfl, ← List.map_append, ← e]
  rw [e2, atI_last]
/-- no number of the first is above its one of the second -/
def leAll (ns ms : List Int) : Bool := (List.range (min ns.length ms.length)).all fun i => decide (nth ns i ≤ nth ms i)
theorem leAll_of {ns ms : List Int} (h : ∀ i, i < ns.length → nth ns i ≤ nth ms i) : leAll ns ms = true := by
  unfold leAll
  refine List.all_eq_true.mpr fun i hi => decide_eq_true (h i ?_)
  have := List.mem_range.mp hi
  omega
/-! ## own == and != -/
section
variable {X : Cx} {C : Addr} {k : Nat}
/-- what the own == promises, any answer -/
abbrev rEqP (C : Addr) (sp : Sp) : R2 := fun x y H Q => ∃ a dx fs b dy gs, x = .ref a ∧ y = .ref b ∧ H a = some (.ins C dx fs) ∧ H b = some (.ins C dy gs) ∧ sp [.ref a, .ref b] H (fun v H' => ∃ r, v = .bl r ∧ Q (.bl r) H') E0
abbrev rNeP (C : Addr) (sp : Sp) : R2 := fun x y H Q => ∃ a dx fs b dy gs, x = .ref a ∧ y = .ref b ∧ H a = some (.ins C dx fs) ∧ H b = some (.ins C dy gs) ∧ sp [.ref a, .ref b] H (fun v H' => ∃ r, v = .bl r ∧ Q (.bl (!r)) H') E0
theorem op_eqP {sp : Sp} {st0 : Stmt} {q0 : Str} (h : Mth X.prog X.w X.K X.mg X.base C "__eq__" ["self", "other"] k sp st0 q0) (hr0 : Room (k + 1) X.A) : OpR X (compareOp .Eq) (rEqP C sp) := by
  intro pins s σ H x y v u Q I rx ry hq
  obtain ⟨f, fd, F, hm, b0, cl, _⟩ := h.ex
  obtain ⟨a, dx, fs, b, dy, gs, rfl, rfl, ha, hb, hsp⟩ := hq
  cases rx
  cases ry
  have hr : Room k X.A := hr0.mono (Nat.le_succ _)
  obtain ⟨mA, J, _⟩ := ins_get I.hok ha
  obtain ⟨mB, J', _⟩ := ins_get I.hok hb
  obtain ⟨od, J, _⟩ := J.look
  obtain ⟨od', J', _⟩ := J'.look
  obtain ⟨m, hF⟩ := I.fr
  show wpAny (model X.prog X.w) X.A (richCompare .Eq (.ref a) (.ref b)) _ _ s
  refine PySem.W.cmp_K (op := .Eq) (tb := .ref C) hr.units0 hF I.ok.mod.kin J J'.type (by simp [PySem.W.notFirst]) hm.at_ hm.fn (wpAny_call ?_)
  have hl := F.len _ _ _ _ hsp
  refine codeAny_mono (F.run X.A X.stack s H ⟨[.ref a, .ref b], []⟩ [.ref a, .ref b] [.ref a, .ref b] _ E0 hr I.env0 (by simpa using b0 s [.ref a, .ref b] I.kIn rfl) (.cons rfl (.cons rfl .nil)) hsp) fun r s' hq => ?_
  cases r with
  | error e => exact hq.elim
  | ok fl =>
    cases fl with
    | ret w =>
      obtain ⟨z, H', I', rz, r, ez, q⟩ := I.after hq
      subst ez
      cases rz
      exact ⟨.bl r, H', I', rfl, q⟩
    | next => exact False.elim hq
    | brk => exact False.elim hq
    | cont => exact False.elim hq
end
/-! x != y by object's own !=, which asks the class's == -/
section
variable {prog : Program} {w : World} {A : Around} {E : Value → Shared → Prop} {s : Shared} {K : PySem.W.Frag} {x y C f : Addr} {ox oy : Obj} {od od' : Option Obj}
open PySem.W in
theorem ne_body {Q : Fin → Shared → Prop} (hu : A.units < cLine) (X : K.In s.heap) (I : InstAt s.heap x ox C od) (he : findIn K (.ref C) "__eq__" = some (some (.ref f))) (hf : isFn K (.ref f) = true)
    (h : wpAny (model prog w) A (call (.ref f) [.ref x, .ref y]) (fun v s' => ∃ b, v = .bool b ∧ Q (.done (.ret (.bool (!b)))) s') E s) : wpAny (model prog w) A (Builtin.«object.__ne__» ⟨[.ref x, .ref y], []⟩) Q E s := by
  obtain ⟨hp, g, d, t, os⟩ := s
  unfold Builtin.«object.__ne__»
  repeat (first
    | with_reducible refine wpAny_cRoomFor hu ?_
    | (refine wpAny_bind (m := callSpecialIfBound? (.ref x) (Str.ofString "__eq__") [.ref y]) (ifBound_K X I he hf (wpAny_mono h (fun r s' hr => ?_) fun _ _ e => e)); obtain ⟨b, rfl, hq⟩ := hr)
    | (refine wpAny_bind (m := truthy (.bool _)) (wpAny_truthy_bool ?_))
    | exact hq | exact wpAny_pure hq
    | wp_step)
open PySem.W in
theorem bound_B {B id : String} {nm : Str} {M : Model} {args : List Value} {Q : Option Value → Shared → Prop} (S : Slot B nm id) (X : K.In s.heap) (I : InstAt s.heap x ox C od) (hn : findIn K (.ref C) nm = some (some (.builtin id)))
    (h : wpAny M A (call (.builtin id) (.ref x :: args)) (fun v s' => Q (some v) s') E s) : wpAny M A (callSpecialIfBound? (.ref x) nm args) Q E s := by
  have go : wpAny M A (call (.builtin id) ([.ref x] ++ args) >>= fun v => pure (some v)) Q E s := wpAny_bind (wpAny_mono h (fun v s' q => wpAny_pure q) fun _ _ q => q)
  simp only [bindSpecialIfBound?, callSpecialIfBound?]
  apply wpAny_holding
  refine wpAny_bind (wpAny_bind (wpAny_bind (I.type.here ((looks_findIn X hn).here ?_))))
  simp only [S.bind]
  apply wpAny_bind
  refine wpAny_askSetting (wpAny_ite ?_)
  split
  · refine wpAny_bind (wpAny_pure (wpAny_pure ?_))
    exact go
  · refine wpAny_tryCatch (wpAny_bind (wpAny_pure (wpAny_pure ?_)))
    exact go
open PySem.W in
theorem ne_try {Q : Option Value → Shared → Prop} (hu : A.units + 1 < cLine) (X : K.In s.heap) (I : InstAt s.heap x ox C od) (hn : findIn K (.ref C) "__ne__" = some (some (.builtin "object.__ne__"))) (hm : mroIn K C (.type "object") = some true)
    (he : findIn K (.ref C) "__eq__" = some (some (.ref f))) (hf : isFn K (.ref f) = true)
    (h : wpAny (model prog w) A.in1 (call (.ref f) [.ref x, .ref y]) (fun v s' => ∃ b, v = .bool b ∧ Q (some (.bool (!b))) s') E s) : wpAny (model prog w) A (tryCompare (.ref x) "__ne__" (.ref y)) Q E s := by
  have S := F.cmp_object.ne
  have sub : Looks (model prog w) s.heap (isInstance (.ref x) (.type "object")) true := I.type.andThen (looks_mroIn X hm)
  unfold tryCompare
  refine wpAny_bind (bound_B S X I hn ?_)
  refine wpAny_call (codeAny_call_builtin S.plain F.cmpEntry_ne (check_slot F.cmpKind_ne F.cmpSplit_ne sub (F.cmpArgs_ne _ _) ?_))
  refine ne_body (A := A.in1) hu X I he hf (wpAny_mono h (fun v s' hv => ?_) fun _ _ e => e)
  obtain ⟨b, e, q⟩ := hv
  exact ⟨b, e, wpAny_pure q⟩
open PySem.W in
theorem ne_K {h₀ : Heap} {L : Addr} {m : Str → Option Value} {Q : Value → Shared → Prop} (hu : A.units + 1 < cLine) (X : K.In s.heap) (I : InstAt s.heap x ox C od) (J : InstAt s.heap y oy C od') (hn : findIn K (.ref C) "__ne__" = some (some (.builtin "object.__ne__"))) (hm : mroIn K C (.type "object") = some true)
    (he : findIn K (.ref C) "__eq__" = some (some (.ref f))) (hf : isFn K (.ref f) = true)
    (h : wpAny (model prog w) A.in1 (call (.ref f) [.ref x, .ref y]) (fun v s' => ∃ b, v = .bool b ∧ Q (.bool (!b)) s') E s) : wpAny (model prog w) A (richCompare .NotEq (.ref x) (.ref y)) Q E s := by
  unfold richCompare
  simp only [oneThing_ref]
  refine wpAny_holding (wpAny_bind (wpAny_cRoomFor (Nat.lt_of_succ_lt hu) (wpAny_bind (I.type.here (wpAny_bind (J.type.here ?_))))))
  rw [show (Value.ref C != Value.ref C) = false by simp]
  have go := ne_try (Q := fun r s' => ∃ b, r = some (.bool b) ∧ Q (.bool b) s') hu X I hn hm he hf (wpAny_mono h (fun v s' hv => by
    obtain ⟨b, e, q⟩ := hv
    exact ⟨b, e, _, rfl, q⟩) fun _ _ e => e)
  simp only [Bool.false_eq_true, if_false]
  refine wpAny_bind (wpAny_pure ?_)
  simp only [Bool.false_eq_true, if_false]
  refine wpAny_bind (wpAny_mono go (fun r s' z => ?_) fun _ _ e => e)
  obtain ⟨b, rfl, q⟩ := z
  exact wpAny_pure q
end
section
variable {X : Cx} {C : Addr} {k : Nat}
theorem op_neP {sp : Sp} {st0 : Stmt} {q0 : Str} (h : Mth X.prog X.w X.K X.mg X.base C "__eq__" ["self", "other"] k sp st0 q0) (hn : PySem.W.findIn X.K (.ref C) "__ne__" = some (some (.builtin "object.__ne__"))) (hm : PySem.W.mroIn X.K C (.type "object") = some true) (hr0 : Room (k + 1) X.A) : OpR X (compareOp .NotEq) (rNeP C sp) := by
  intro pins s σ H x y v u Q I rx ry hq
  obtain ⟨f, fd, F, hm1, b0, cl, _⟩ := h.ex
  obtain ⟨a, dx, fs, b, dy, gs, rfl, rfl, ha, hb, hsp⟩ := hq
  cases rx
  cases ry
  have hr : Room k X.A.in1 := hr0.in1
  obtain ⟨mA, J, _⟩ := ins_get I.hok ha
  obtain ⟨mB, J', _⟩ := ins_get I.hok hb
  obtain ⟨od, J, _⟩ := J.look
  obtain ⟨od', J', _⟩ := J'.look
  show wpAny (model X.prog X.w) X.A (richCompare .NotEq (.ref a) (.ref b)) _ _ s
  refine ne_K (h₀ := X.base) (L := 0) (m := fun _ => none) (by have := hr0.units; omega) I.kIn J J' hn hm hm1.at_ hm1.fn (wpAny_call ?_)
  refine codeAny_mono (F.run X.A.in1 X.stack s H ⟨[.ref a, .ref b], []⟩ [.ref a, .ref b] [.ref a, .ref b] _ E0 hr I.env0.in1 (by simpa using b0 s [.ref a, .ref b] I.kIn rfl) (.cons rfl (.cons rfl .nil)) hsp) fun r s' hq => ?_
  cases r with
  | error e => exact hq.elim
  | ok fl =>
    cases fl with
    | ret w =>
      obtain ⟨z, H', I', rz, r, ez, q⟩ := I.after hq
      subst ez
      cases rz
      exact ⟨r, rfl, .bl (!r), H', I', rfl, q⟩
    | next => exact False.elim hq
    | brk => exact False.elim hq
    | cont => exact False.elim hq
end
set_option Elab.async false
set_option linter.all false
set_option maxRecDepth 100000
set_option maxHeartbeats 4000000
/-! ## the jar of draws: three numbers at j, good for n draws more -/
structure JarB (a b c : Int) (n : Nat) : Prop where
  a0 : 0 ≤ a
  b0 : 0 ≤ b
  b1 : b < 2 ^ 200
  c0 : 0 ≤ c
  c1 : c + n ≤ 1000000
abbrev JarO (a b c : Int) : HO := .lst [.int a, .int b, .int c]
def JarAt (H : Hp) (j : Addr) (n : Nat) : Prop := ∃ a b c, H j = some (JarO a b c) ∧ JarB a b c n
theorem JarAt.le {H : Hp} {j : Addr} {n m : Nat} (h : JarAt H j n) (l : m ≤ n) : JarAt H j m := by
  obtain ⟨a, b, c, e, q⟩ := h
  exact ⟨a, b, c, e, q.a0, q.b0, q.b1, q.c0, by have := q.c1; omega⟩
theorem JarAt.fr {H H' : Hp} {j : Addr} {n : Nat} (h : JarAt H j n) (f : Fr [] H H') : JarAt H' j n := by
  obtain ⟨a, b, c, e, q⟩ := h
  exact ⟨a, b, c, f _ _ (fun z => nomatch z) e, q⟩
theorem JarAt.ne {H : Hp} {j p : Addr} {n : Nat} (h : JarAt H j n) (hp : H p = none) : p ≠ j := fun e => by
  obtain ⟨a, b, c, e1, _⟩ := h
  rw [e, e1] at hp
  cases hp
theorem JarAt.some {H : Hp} {j : Addr} {n : Nat} (h : JarAt H j n) : ∃ o, H j = some o := by
  obtain ⟨a, b, c, e, _⟩ := h
  exact ⟨_, e⟩
/-- the known heap beside the jar -/
structure ZJ (H0 H : Hp) (j : Addr) (n : Nat) (E : List En) : Prop where
  jar : JarAt H j n
  nd : (E.map (·.2.1)).Nodup
  at_ : ∀ q ∈ E, H q.2.1 = some q.2.2
  ne : ∀ q ∈ E, q.2.1 ≠ j
  two : ∀ q ∈ E, q.1 = 2
  fresh : ∀ q ∈ E, H0 q.2.1 = none
  fr : Fr [j] H0 H
section
variable {H0 H H' : Hp} {j : Addr} {n : Nat} {E : List En}
theorem ZJ.start (h : JarAt H j n) : ZJ H H j n [] := ⟨h, List.nodup_nil, (fun _ m => nomatch m), (fun _ m => nomatch m), (fun _ m => nomatch m), (fun _ m => nomatch m), Fr.refl H⟩
theorem ZJ.get (z : ZJ H0 H j n E) {t : Nat} {a : Addr} {o : HO} (h : (t, a, o) ∈ E) : H a = some o := z.at_ _ h
theorem ZJ.keep (z : ZJ H0 H j n E) {a : Addr} {o : HO} (h : H0 a = some o) (n : a ≠ j) : H a = some o := z.fr _ _ (fun m => by
  rcases List.mem_cons.mp m with e | m
  · exact n e
  · cases m) h
theorem ZJ.none (z : ZJ H0 H j n E) {p : Addr} (hp : H p = none) : H0 p = none := by
  cases e : H0 p with
  | none => rfl
  | some o =>
    rw [z.keep e (z.jar.ne hp)] at hp
    cases hp
theorem ZJ.alloc (z : ZJ H0 H j n E) {p : Addr} (o : HO) (hp : H p = Option.none) : ZJ H0 (upd H p o) j n ((2, p, o) :: E) := by
  have hn : ∀ q ∈ E, q.2.1 ≠ p := fun q hq => ne_of_none (z.at_ q hq) hp
  have hj := z.jar.ne hp
  refine ⟨z.jar.fr ((Fr.refl H).new hp), ?_, fun q hq => ?_, fun q hq => ?_, fun q hq => ?_, fun q hq => ?_, z.fr.new hp⟩
  · rw [List.map_cons, List.nodup_cons]
    refine ⟨fun m => ?_, z.nd⟩
    obtain ⟨q, hq, e⟩ := List.mem_map.mp m
    exact hn q hq e
  all_goals rcases List.mem_cons.mp hq with rfl | hq
  · exact upd_same
  · rw [upd_ne (hn q hq)]
    exact z.at_ q hq
  · exact hj
  · exact z.ne q hq
  · rfl
  · exact z.two q hq
  · exact z.none hp
  · exact z.fresh q hq
theorem ZJ.other (z : ZJ H0 H j n E) {i k : Nat} {q r : En} (hi : E[i]? = some q) (hk : E[k]? = some r) (h : k ≠ i) : r.2.1 ≠ q.2.1 := fun e => by
  have h1 : (E.map (·.2.1))[i]? = some q.2.1 := by rw [List.getElem?_map, hi] <;> rfl
  have h2 : (E.map (·.2.1))[k]? = some r.2.1 := by rw [List.getElem?_map, hk] <;> rfl
  rw [e] at h2
  obtain ⟨g1, e1⟩ := List.getElem?_eq_some_iff.mp h1
  obtain ⟨g2, e2⟩ := List.getElem?_eq_some_iff.mp h2
  exact h ((List.getElem_inj z.nd).mp (e2.trans e1.symm))
/-- a store to the i-th entry -/
theorem ZJ.set (z : ZJ H0 H j n E) (i : Nat) {t : Nat} {a : Addr} {o : HO} (o' : HO) (hi : E[i]? = some (t, a, o)) : ZJ H0 (upd H a o') j n (E.set i (t, a, o')) := by
  have hin := List.mem_of_getElem? hi
  have haj := z.ne _ hin
  refine ⟨?_, ?_, fun q hq => ?_, fun q hq => ?_, fun q hq => ?_, fun q hq => ?_, ?_⟩
  · obtain ⟨x, y, c, e, b⟩ := z.jar
    exact ⟨x, y, c, by rw [upd_ne haj.symm]; exact e, b⟩
  · rw [map_set_same hi]
    exact z.nd
  · rcases mem_set_of hq with rfl | ⟨k, hk, e⟩
    · exact upd_same
    · rw [upd_ne (z.other hi e hk)]
      exact z.at_ q (List.mem_of_getElem? e)
  · rcases mem_set_of hq with rfl | ⟨k, hk, e⟩
    · exact haj
    · exact z.ne q (List.mem_of_getElem? e)
  · rcases mem_set_of hq with rfl | ⟨k, hk, e⟩
    · exact z.two (t, a, o) hin
    · exact z.two q (List.mem_of_getElem? e)
  · rcases mem_set_of hq with rfl | ⟨k, hk, e⟩
    · exact z.fresh (t, a, o) hin
    · exact z.fresh q (List.mem_of_getElem? e)
  · exact z.fr.mut (z.fresh _ hin)
/-- behind draws -/
theorem ZJ.dips (z : ZJ H0 H j n E) {m : Nat} (f : Fr [j] H H') (h : JarAt H' j m) : ZJ H0 H' j m E :=
  ⟨h, z.nd, fun q hq => f _ _ (fun s => by
    rcases List.mem_cons.mp s with e | s
    · exact z.ne q hq e
    · cases s) (z.at_ q hq), z.ne, z.two, z.fresh, z.fr.trans f⟩
/-- behind a call that draws and makes N -/
theorem ZJ.call (z : ZJ H0 H j n E) {m : Nat} {N : List (Addr × HO)} (f : Fr [j] H H') (h : JarAt H' j m) (w : New H H' N) : ZJ H0 H' j m (N.map (fun q => ((2, q.1, q.2) : En)) ++ E) := by
  have y := z.dips f h
  refine ⟨h, ?_, fun q hq => ?_, fun q hq => ?_, fun q hq => ?_, fun q hq => ?_, y.fr⟩
  · rw [List.map_append, List.nodup_append]
    refine ⟨?_, z.nd, fun x hx r hr e => ?_⟩
    · rw [List.map_map]
      exact w.1.1
    · obtain ⟨q, hq, rfl⟩ := List.mem_map.mp hx
      obtain ⟨q', hq', rfl⟩ := List.mem_map.mp hq
      obtain ⟨u, hu, rfl⟩ := List.mem_map.mp hr
      exact ne_of_none (z.at_ u hu) (w.2 q' hq') e.symm
  all_goals rcases List.mem_append.mp hq with hq | hq
  · obtain ⟨q', hq', rfl⟩ := List.mem_map.mp hq
    exact w.1.2 q' hq'
  · exact y.at_ q hq
  · obtain ⟨q', hq', rfl⟩ := List.mem_map.mp hq
    exact z.jar.ne (w.2 q' hq')
  · exact z.ne q hq
  · obtain ⟨q', hq', rfl⟩ := List.mem_map.mp hq
    rfl
  · exact z.two q hq
  · obtain ⟨q', hq', rfl⟩ := List.mem_map.mp hq
    exact z.none (w.2 q' hq')
  · exact z.fresh q hq
theorem ZJ.call0 (z : ZJ H0 H j n E) {N : List (Addr × HO)} (f : Fr [] H H') (w : New H H' N) : ZJ H0 H' j n (N.map (fun q => ((2, q.1, q.2) : En)) ++ E) := z.call f.up0 (z.jar.fr f) w
theorem new1 {D : Addr} {o : HO} (h0 : H D = Option.none) (h1 : H' D = some o) : New H H' [(D, o)] := by
  refine ⟨⟨List.nodup_cons.mpr ⟨(fun m => nomatch m), List.nodup_nil⟩, fun q hq => ?_⟩, fun q hq => ?_⟩
  all_goals
    rcases List.mem_cons.mp hq with rfl | hq
    · assumption
    · cases hq
theorem ZJ.comp (z : ZJ H0 H j n E) {D : Addr} {o : HO} (f : Fr [] H H') (h0 : H D = Option.none) (h1 : H' D = some o) : ZJ H0 H' j n ((2, D, o) :: E) := z.call0 (N := [(D, o)]) f (new1 h0 h1)
theorem ZJ.same (z : ZJ H0 H j n E) (f : Fr [] H H') : ZJ H0 H' j n E := z.dips f.up0 (z.jar.fr f)
theorem ZJ.sub (z : ZJ H0 H j n E) {E' : List En} (s : E'.Sublist E) : ZJ H0 H j n E' :=
  ⟨z.jar, (s.map _).nodup z.nd, fun q hq => z.at_ q (s.subset hq), fun q hq => z.ne q (s.subset hq), fun q hq => z.two q (s.subset hq), fun q hq => z.fresh q (s.subset hq), z.fr⟩
theorem ZJ.perm (z : ZJ H0 H j n E) {E' : List En} (s : E'.Perm E) : ZJ H0 H j n E' :=
  ⟨z.jar, (s.map _).nodup_iff.mpr z.nd, fun q hq => z.at_ q (s.subset hq), fun q hq => z.ne q (s.subset hq), fun q hq => z.two q (s.subset hq), fun q hq => z.fresh q (s.subset hq), z.fr⟩
theorem ZJ.le (z : ZJ H0 H j n E) {m : Nat} (l : m ≤ n) : ZJ H0 H j m E := ⟨z.jar.le l, z.nd, z.at_, z.ne, z.two, z.fresh, z.fr⟩
theorem ZJ.made (z : ZJ H0 H j n E) {N : List (Addr × HO)} (s : (N.map (fun q => ((2, q.1, q.2) : En))).Sublist E) : New H0 H N := by
  refine ⟨⟨?_, fun q hq => z.at_ (2, q.1, q.2) (s.subset (List.mem_map.mpr ⟨q, hq, rfl⟩))⟩, fun q hq => z.fresh (2, q.1, q.2) (s.subset (List.mem_map.mpr ⟨q, hq, rfl⟩))⟩
  have := (s.map (·.2.1)).nodup z.nd
  rw [List.map_map] at this
  exact this
theorem pick_mem {E : List En} : ∀ (is : List Nat) (N : List (Addr × HO)), is.map (fun i => E[i]?) = N.map (fun q => some ((2, q.1, q.2) : En)) → ∀ q ∈ N, ∃ i ∈ is, E[i]? = some (2, q.1, q.2)
  | [], [], _, q, hq => nomatch hq
  | [], _ :: _, e, _, _ => by cases e
  | _ :: _, [], e, _, _ => by cases e
  | i :: is, p :: N, e, q, hq => by
    rw [List.map_cons, List.map_cons, List.cons.injEq] at e
    rcases List.mem_cons.mp hq with rfl | hq
    · exact ⟨i, List.mem_cons_self, e.1⟩
    · obtain ⟨k, hk, h⟩ := pick_mem is N e.2 q hq
      exact ⟨k, List.mem_cons_of_mem _ hk, h⟩
theorem pick_nd {H0 H : Hp} {j : Addr} {n : Nat} {E : List En} (z : ZJ H0 H j n E) : ∀ (is : List Nat) (N : List (Addr × HO)), is.Nodup → is.map (fun i => E[i]?) = N.map (fun q => some ((2, q.1, q.2) : En)) → (N.map (·.1)).Nodup
  | [], [], _, _ => List.nodup_nil
  | [], _ :: _, _, e => by cases e
  | _ :: _, [], _, e => by cases e
  | i :: is, p :: N, nd, e => by
    rw [List.map_cons, List.map_cons, List.cons.injEq] at e
    rw [List.nodup_cons] at nd
    rw [List.map_cons, List.nodup_cons]
    refine ⟨fun m => ?_, pick_nd z is N nd.2 e.2⟩
    obtain ⟨q, hq, e1⟩ := List.mem_map.mp m
    obtain ⟨k, hk, h⟩ := pick_mem is N e.2 q hq
    exact z.other e.1 h (fun x => nd.1 (x ▸ hk)) e1
/-- of what is known the entries at these places -/
theorem ZJ.pick {H0 H : Hp} {j : Addr} {n : Nat} {E : List En} (z : ZJ H0 H j n E) {N : List (Addr × HO)} (is : List Nat) (e : is.map (fun i => E[i]?) = N.map (fun q => some ((2, q.1, q.2) : En))) (nd : is.Nodup := by decide) : New H0 H N :=
  ⟨⟨pick_nd z is N nd e, fun q hq => by
    obtain ⟨i, _, h⟩ := pick_mem is N e q hq
    exact z.at_ _ (List.mem_of_getElem? h)⟩, fun q hq => by
    obtain ⟨i, _, h⟩ := pick_mem is N e q hq
    exact z.fresh _ (List.mem_of_getElem? h)⟩
end
/-- [draw for _ in range(n)], c draws an item -/
theorem lc_draw {J : It} (p : Int → Prop) {n c m : Nat} {f : Nat → V} {g : TG} {te : TE} {vs : List Nat} {σ : L2.St} {Q : VK} {H0 H1 : Hp} {j : Addr} {E : List En} (w : Walk J n (fun _ => True) (YFn f)) (hn : n ≤ 10000) (z : ZJ H0 H1 j (m + c * n) E)
    (he : ∀ (i : Nat) (H' : Hp) (D : Addr) (ns : List Int) (R : VK), i < n → ns.length = i → ZJ H0 H' j (m + c * (n - i)) ((2, D, .lst (ns.map V.int)) :: E) → (∀ (x : Int) (G : Hp), p x → ZJ H0 G j (m + c * (n - (i + 1))) ((2, D, .lst (ns.map V.int)) :: E) → R (.int x) G) →
      g (f i) (wipe σ vs) H' fun σ2 H2 => wipe σ2 vs = wipe σ vs ∧ te σ2 H2 R)
    (hd : ∀ (D : Addr) (ns : List Int) (H' : Hp), ns.length = n → (∀ x ∈ ns, p x) → ZJ H0 H' j m ((2, D, .lst (ns.map V.int)) :: E) → Q (.ref D) H') : LcJ g tYes te vs σ Q J H1 := by
  intro D hD
  refine lc_it w (fun i H' => i ≤ n ∧ ∃ ns : List Int, ns.length = i ∧ (∀ x ∈ ns, p x) ∧ ZJ H0 H' j (m + c * (n - i)) ((2, D, .lst (ns.map V.int)) :: E)) ⟨Nat.zero_le _, [], rfl, (fun _ m => nomatch m), z.alloc (.lst []) hD⟩ (fun i H' _ _ => trivial) (fun i x H' H'' hi p y => ?_) (fun H' p => ?_)
  · obtain ⟨p1, ns, p2, pp, p3⟩ := p
    obtain ⟨rfl, rfl⟩ := y
    refine he i H'' D ns (fun y H4 => ∃ acc, H4 D = some (.lst acc) ∧ acc.length < sizeLine ∧ (i + 1 ≤ n ∧ ∃ ns : List Int, ns.length = i + 1 ∧ (∀ x ∈ ns, p x) ∧ ZJ H0 (upd H4 D (.lst (acc ++ [y]))) j (m + c * (n - (i + 1))) ((2, D, .lst (ns.map V.int)) :: E))) hi p2 p3 fun x G px q => ?_
    refine ⟨ns.map V.int, q.get (.head _), ?_, hi, ns ++ [x], by rw [List.length_append, p2] <;> rfl, (fun y hy => (List.mem_append.mp hy).elim (pp y) fun h => (List.mem_singleton.mp h) ▸ px), ?_⟩
    · rw [List.length_map, p2]
      exact Nat.lt_of_lt_of_le (show i < 100001 by omega) (by decide)
    · rw [List.map_append]
      exact q.set 0 _ rfl
  · obtain ⟨p1, ns, p2, pp, p3⟩ := p
    exact hd D ns H' p2 pp (by
      rw [Nat.sub_self] at p3
      exact p3)
theorem min_ex : ∀ {ns : List Int}, 0 < ns.length → ∃ m, m ∈ ns ∧ ∀ y, y ∈ ns → m ≤ y
  | [], h => absurd h (by decide)
  | [a], _ => ⟨a, List.mem_cons_self, fun y hy => by rcases List.mem_cons.mp hy with rfl | hy; exact Int.le_refl _; cases hy⟩
  | a :: b :: r, _ => by
    obtain ⟨m, h1, h2⟩ := min_ex (ns := b :: r) (by simp)
    rcases Int.le_total a m with h | h
    · exact ⟨a, List.mem_cons_self, fun y hy => by
        rcases List.mem_cons.mp hy with rfl | hy
        · exact Int.le_refl _
        · exact Int.le_trans h (h2 y hy)⟩
    · exact ⟨m, List.mem_cons_of_mem _ h1, fun y hy => by
        rcases List.mem_cons.mp hy with rfl | hy
        · exact h
        · exact h2 y hy⟩
theorem max_ex : ∀ {ns : List Int}, 0 < ns.length → ∃ m, m ∈ ns ∧ ∀ y, y ∈ ns → y ≤ m
  | [], h => absurd h (by decide)
  | [a], _ => ⟨a, List.mem_cons_self, fun y hy => by rcases List.mem_cons.mp hy with rfl | hy; exact Int.le_refl _; cases hy⟩
  | a :: b :: r, _ => by
    obtain ⟨m, h1, h2⟩ := max_ex (ns := b :: r) (by simp)
    rcases Int.le_total m a with h | h
    · exact ⟨a, List.mem_cons_self, fun y hy => by
        rcases List.mem_cons.mp hy with rfl | hy
        · exact Int.le_refl _
        · exact Int.le_trans (h2 y hy) h⟩
    · exact ⟨m, List.mem_cons_of_mem _ h1, fun y hy => by
        rcases List.mem_cons.mp hy with rfl | hy
        · exact h
        · exact h2 y hy⟩
theorem r_minM {K : PySem.W.Frag} {H : Hp} {Q : VK} {a : Addr} {ns : List Int} {m : Int} (h : SqL K H a (ns.map V.int)) (h1 : m ∈ ns) (h2 : ∀ y, y ∈ ns → m ≤ y) (q : Q (.int m) H) : rMin K [.ref a] H Q :=
  ⟨a, ns, rfl, h, List.length_pos_of_mem h1, fun m' g1 g2 => by rw [Int.le_antisymm (g2 _ h1) (h2 _ g1)]; exact q⟩
theorem r_maxM {K : PySem.W.Frag} {H : Hp} {Q : VK} {a : Addr} {ns : List Int} {m : Int} (h : SqL K H a (ns.map V.int)) (h1 : m ∈ ns) (h2 : ∀ y, y ∈ ns → y ≤ m) (q : Q (.int m) H) : rMax K [.ref a] H Q :=
  ⟨a, ns, rfl, h, List.length_pos_of_mem h1, fun m' g1 g2 => by rw [Int.le_antisymm (h2 _ g1) (g2 _ h1)]; exact q⟩
/-- [c for _ in a] -/
theorem lc_const {K : PySem.W.Frag} {a : Addr} {te : TE} {vs : List Nat} {σ : L2.St} {H1 : Hp} {Q : VK} {k : Nat} {ns : List Int} (c : Int) (ha : SqL K H1 a (ns.map V.int)) (hn : ns.length ≤ 100000) (hw : ∀ x, wipe ((wipe σ vs).set k (some x)) vs = wipe σ vs)
    (he : ∀ x H' (R : VK), Fr [] H1 H' → (∀ H4, Fr [] H' H4 → R (.int c) H4) → te ((wipe σ vs).set k (some (.int x))) H' R)
    (hd : ∀ D H', H1 D = none → Fr [] H1 H' → H' D = some (.lst ((ns.map fun _ => c).map V.int)) → Q (.ref D) H') : LcJ (gName k) tYes te vs σ Q (Itl K a) H1 :=
  lc_map (fun _ => c) ha hn hw (fun i H' R _ e kR => he _ H' R e kR) hd
theorem nth_const {ns : List Int} {c : Int} {i : Nat} (h : i < ns.length) : nth (ns.map fun _ => c) i = c := by
  unfold nth
  rw [List.getD_eq_getElem?_getD, List.getElem?_map, List.getElem?_eq_getElem h]
  rfl
theorem nth_map {ns : List Int} {g : Int → Int} {i : Nat} (h : i < ns.length) : nth (ns.map g) i = g (nth ns i) := by
  unfold nth
  rw [List.getD_eq_getElem?_getD, List.getD_eq_getElem?_getD, List.getElem?_map, List.getElem?_eq_getElem h]
  rfl
theorem nth_mem {ns : List Int} {i : Nat} (h : i < ns.length) : nth ns i ∈ ns := by
  rw [← getElem_nth h]
  exact List.getElem_mem h
set_option Elab.async false
set_option linter.all false
set_option maxRecDepth 100000
set_option maxHeartbeats 2000000
/-! ## enumerate(list, start=c) -/
def ItS (K : PySem.W.Frag) (c : Int) (a : Addr) : It where
  go := (Ite K a).go
  stop := (Ite K a).stop
  yld := fun i H v H' => ∃ (T : Addr) (x : V), v = .ref T ∧ H T = none ∧
    H' = upd H T (.tup [.int (c + (i : Int)), x]) ∧
    ∀ xs, SqL K H a xs → xs[i]? = some x
theorem turn_enumS {P : Program} {w : World} {K : PySem.W.Frag} {elts : List Expr} {kk : Nat} {tpos : Pos} (c : Int) (a e it : Addr) :
    Turn P w K (.Tuple elts kk tpos) (ItS K c a) [e, it] e fun i h =>
      e ≠ it ∧ a ≠ it ∧ h.IsListIter it a i ∧ ∃ u, IsEnum h e it (c + (i : Int)) u where
  mem := List.mem_cons_self ..
  obj := fun i h ⟨_, _, ⟨o, ho, _, hd⟩, u, he⟩ b hb => by
    rcases List.mem_cons.mp hb with rfl | hb
    · exact ⟨_, he, fun v q => nomatch q⟩
    · obtain rfl := List.mem_singleton.mp hb
      exact ⟨o, ho, fun v q => by
        rw [hd] at q
        cases q⟩
  keep := fun i h h' ⟨n1, n2, hi, u, he⟩ k =>
    ⟨n1, n2, hi.at fun o q => k it (by simp) o q, u, k e (by simp) _ he⟩
  item := by
    intro X hP hw hK hc i pins s σ H E I hf st hg
    subst hP hw hK
    obtain ⟨n1, n2, hi, u0, he⟩ := st
    obtain ⟨xs, x, hq, hx⟩ := hg
    obtain ⟨its, rv, p, hz⟩ := I.list hq
    obtain ⟨u, hu, ru⟩ := rv.get hx
    have lt : i < its.toArray.size := by
      have := (List.getElem?_eq_some_iff.mp hu).1
      simpa using this
    have D := Draws.list (prog := X.prog) (w := X.w) (A := X.A.in1) (I.ok.hd hc) it a n2 its.toArray
    have hel : e < s.heap.objs.size := Heap.lt_size he
    have hil : it < s.heap.objs.size := by
      obtain ⟨_, q, _⟩ := hi
      exact Heap.lt_size q
    have nea : e ≠ a := fun q => by
      obtain ⟨o, ho, hc, _⟩ := p.isList
      rw [← q, he] at ho
      obtain rfl := Option.some.inj ho
      exact absurd (show Value.type "enumerate" = Value.type "list" from hc) (by decide)
    refine wpAny_pyNext_enum_itemC D he ⟨hi, p.isList⟩ lt n1 (by simp [n1, nea]) fun y h' tk hy ho hs hT hsz hk => ?_
    obtain rfl : u = y := by
      have hy : its.toArray[i]? = some y := hy
      rw [List.getElem?_toArray, hu] at hy
      exact Option.some.inj hy
    refine ⟨_, rfl, wpAny_letOwnedTupleGo_enum (s := { s with heap := h', toks := tk + 1 }) ho fun h'' he' sb => ?_⟩
    have hT2 : h''.get? s.heap.objs.size = some { cls := .type "tuple", data := .seq #[.int (c + (i : Int)) tk, u] } := (sb.2 _ (Nat.ne_of_gt hel)).trans hT
    have new : ObjOk X.prog X.w (upd H s.heap.objs.size (.tup [.int (c + (i : Int)), x])) h'' s.heap.objs.size (.tup [.int (c + (i : Int)), x]) :=
      ⟨by show 2 ≤ sizeLine; decide, [.int (c + (i : Int)) tk, u], .cons ⟨_, rfl⟩ (.cons ru .nil), ⟨_, hT2, rfl, _, rfl⟩⟩
    have same : ∀ b o, b ∉ [e, it] → s.heap.get? b = some o → h''.get? b = some o := fun b o hb q => by
      have b1 : b ≠ e := fun z => hb (by simp [z])
      have b2 : b ≠ it := fun z => hb (by simp [z])
      exact (sb.2 b b1).trans (hk b o b1 b2 q)
    have I1 : Inv X pins σ (upd H s.heap.objs.size (.tup [.int (c + (i : Int)), x])) { s with heap := h'', toks := tk + 1 } := I.turnedNew (ch := [e, it]) same hf (Nat.le_refl _) new
    refine ⟨.ref s.heap.objs.size, _, I1, rfl, ⟨_, x, rfl, I.hok.fresh (Nat.le_refl _), rfl, fun ys hy => ?_⟩, ⟨n1, n2, hs.1.at fun o q => (sb.2 it (Ne.symm n1)).trans q, u, ?_⟩, fun b hb => ?_⟩
    · rw [I.list_inj hy hq]
      exact hx
    · rw [show c + ((i + 1 : Nat) : Int) = c + (i : Int) + 1 by omega]
      exact he'
    · have hb' : b < s.heap.objs.size := by
        rcases List.mem_cons.mp hb with rfl | hb
        · exact hel
        · obtain rfl := List.mem_singleton.mp hb
          exact hil
      rw [upd_ne (Nat.ne_of_lt hb')]
      exact (hf b hb).1
  done := by
    intro X hP hw hK hc i pins s σ H E I hf st hg
    subst hP hw hK
    obtain ⟨n1, n2, hi, u0, he⟩ := st
    obtain ⟨xs, hq, hx⟩ := hg
    obtain ⟨its, rv, p, hz⟩ := I.list hq
    have f := hf it (by simp)
    have hl := rv.length
    have hi' : s.heap.IsListIter it a i := hi
    have ty : s.TypeIs (.ref e) "enumerate" := ⟨_, he, rfl⟩
    have none : its.toArray[i]? = none := Array.getElem?_eq_none (by simp; omega)
    unfold pyNext
    refine wpAny_bind (wpAny_attempt ?_)
    refine wpAny_callSpecial?_slot (name := Str.ofString "__next__") ty F.slot_enumerate_next ?_
    refine wpAny_call_entry F.slot_enumerate_next ty F.entry_enumerate_next ?_ (F.args_enumerate_next_1 _)
    refine wpAny_bind (m := field (.ref e) 2) (wpAny_field he rfl (x := .ref it) rfl ?_)
    refine wpAny_bind (wpAny_nextOf_list_end (I.ok.hd hc) hi' p.isList none fun h' y eb ⟨o, ho, hs⟩ => ?_)
    refine wpAny_bind (wpAny_isInstance (b := true) ⟨o, ho, hs⟩ isSubtype_stop (wpAny_pure ⟨rfl, ?_⟩))
    exact I.turned (t' := s.toks) (fun b o hb q => eb b o hb q) f.1 f.2.1 f.2.2.2.1 f.2.2.2.2.1 f.2.2.2.2.2
  self := fun A i s Q E ⟨_, _, _, u, he⟩ h => wpAny_pyIter_enum he h
/-- reading: enumerate(e, start=c) -/
def iEnumS (K : PySem.W.Frag) (c : Int) (ta : TE) : TI := fun σ H R => ta σ H fun v H1 => ∃ a xs, v = .ref a ∧ SqL K H1 a xs ∧ R (ItS K c a) H1
theorem pi_enumS {X : Cx} {e : Expr} {ta : TE} {p pos tpos cp kp : Pos} {elts : List Expr} {kk ck : Nat} {n : Int} (hg : Gl X "enumerate") (hm : X.mg "enumerate" = none) (he : PE X e ta) (hn : -1000 < n ∧ n < 1000 := by decide) (hs : starEach [e] X.env = [(false, eval e X.env)] := by rfl) :
    PI X (.Tuple elts kk tpos) (.Call (.Name "enumerate" p) [e] [⟨some "start", .Constant (.int n) ck cp, kp⟩] pos) (iEnumS X.K n ta) := by
  refine ⟨fun pins s σ H R I h => ?_⟩
  refine wpAny_Call_Name_kw (ld_blt I hg hm boot_enumerate ?_)
  refine PySem.W.callWith_of (P := fun _ => True) (by rw [hs] <;> rfl) (fun h _ => ⟨.machine, .inr (.inl rfl), .now⟩) ?_
  refine evalArgs_kw2 (by rfl) ?_ hs
  have ha : tCons ta tNil σ H fun vs H1 => ∃ a xs, vs = [.ref a] ∧ SqL X.K H1 a xs ∧ R (ItS X.K n a) H1 := by
    show ta σ H _
    have eq : (fun v H1 => ∃ a xs, [v] = [V.ref a] ∧ SqL X.K H1 a xs ∧ R (ItS X.K n a) H1) = fun v H1 => ∃ a xs, v = V.ref a ∧ SqL X.K H1 a xs ∧ R (ItS X.K n a) H1 := by
      funext v H1
      simp
    exact eq ▸ h
  refine thn ((pa_cons he pa_nil hs).run pos pins s σ H _ I ha) fun us s1 ⟨vs, H1, I1, r1, a, xs, ev, hq, q⟩ => ?_
  subst ev
  cases r1 with
  | cons r rr =>
    cases rr
    cases r
    obtain ⟨its, rv, p', hz⟩ := I1.list hq
    refine kwAll_cons (wpAny_Constant_int (kwAll_nil ⟨trivial, ?_⟩))
    show wpAny _ _ (call (.type "enumerate") [.ref a] [(Str.ofString "start", .int n s1.toks)]) _ _ _
    refine enum_begins_start (begins_list a its.toArray) p'.isList (by omega) (by omega) fun h' he ho hsz hk => wpAny_pyIter_enum he ?_
    have I2 : Inv X pins σ H1 { s1 with heap := h', toks := s1.toks + 1 } := I1.kept (t' := s1.toks + 1) hk
    have al : a < s1.heap.objs.size := by
      obtain ⟨o, q, _⟩ := p'.isList
      exact Heap.lt_size q
    refine ⟨s1.heap.objs.size + 1, [s1.heap.objs.size + 1, s1.heap.objs.size], _, _, H1, rfl, I2, turn_enumS n a (s1.heap.objs.size + 1) s1.heap.objs.size, ⟨Nat.succ_ne_self _, Nat.ne_of_lt al, ⟨_, ho, rfl, rfl⟩, .none, ?_⟩, fun b hb => ?_, q⟩
    · rw [show n + ((0 : Nat) : Int) = n by omega]
      exact he
    · have le : s1.heap.objs.size ≤ b := by
        rcases List.mem_cons.mp hb with rfl | hb
        · exact Nat.le_add_right ..
        · obtain rfl := List.mem_singleton.mp hb
          exact Nat.le_refl _
      exact I1.fpOk le (I1.hok.fresh le)
theorem walk_enumS {K : PySem.W.Frag} {a : Addr} {xs : List V} {c : Int} : Walk (ItS K c a) xs.length (fun H => SqL K H a xs) (YPair (fun i => some (.int (c + (i : Int)))) (fun i => xs[i]?)) := by
  refine ⟨fun i _ hi q => ⟨xs, xs[i], q, by simp [hi]⟩, fun _ q => ⟨xs, q, Nat.le_refl _⟩, fun i H v H' _ q ⟨T, x, e1, e2, e3, e4⟩ => ?_⟩
  exact ⟨T, .int (c + (i : Int)), x, e1, e2, e3, rfl, e4 xs q⟩
theorem r_ienumS {K : PySem.W.Frag} {c : Int} {te : TE} {σ : L2.St} {H : Hp} {R : It → Hp → Prop} (h : te σ H fun v H1 => ∃ a xs, v = .ref a ∧ SqL K H1 a xs ∧ R (ItS K c a) H1) : iEnumS K c te σ H R := h
theorem r_exenS {K : PySem.W.Frag} {H : Hp} {a : Addr} {xs : List V} {P : Addr → Prop} (h1 : SqL K H a xs) (h : P a) : ∃ c ys, V.ref a = .ref c ∧ SqL K H c ys ∧ P c := ⟨a, xs, rfl, h1, h⟩
theorem r_methK {σ : L2.St} {H : Hp} {Q : VK} {C : Addr} {m : Str} {n : Nat} {sp : Sp} {g : List V → List V → List V} {ta : TE} {tk : TA}
    (h : ta σ H fun x H1 => ∃ a dx fs, x = .ref a ∧ H1 a = some (.ins C dx fs) ∧ fs.lookup m = none ∧ tk σ H1 fun zs H2 => zs.length = n ∧ sp (g [x] zs) H2 Q E0) : tMethK C m n sp g ta tk σ H Q := h
/-- [g(c + i, x) for i, x in enumerate(a, start=c)], nothing that stood changed -/
theorem lc_enumS {K : PySem.W.Frag} {a : Addr} {te : TE} {vs : List Nat} {σ : L2.St} {H1 : Hp} {Q : VK} {k l : Nat} {c : Int} {ns : List Int} (g : Nat → Int → Int) (ha : SqL K H1 a (ns.map V.int)) (hn : ns.length ≤ 100000)
    (hw : ∀ x y, wipe (((wipe σ vs).set k (some x)).set l (some y)) vs = wipe σ vs)
    (he : ∀ i H' (R : VK), i < ns.length → Fr [] H1 H' → (∀ H4, Fr [] H' H4 → R (.int (g i (nth ns i))) H4) → te (((wipe σ vs).set k (some (.int (c + (i : Int))))).set l (some (.int (nth ns i)))) H' R)
    (hd : ∀ D H', H1 D = none → Fr [] H1 H' → H' D = some (.lst (((List.range ns.length).map fun i => g i (nth ns i)).map V.int)) → Q (.ref D) H') : LcJ (gTup K 2 (gCons (gName k) (gCons (gName l) gNil))) tYes te vs σ Q (ItS K c a) H1 := by
  have e1 : (ns.map V.int).length = ns.length := List.length_map _
  refine lc_pure (walk_enumS (xs := ns.map V.int)) (fun i => .int (g i (nth ns i))) (by omega) (fun H' e => e.sql ha (fun z => nomatch z)) (fun i H' x H'' y => by
    obtain ⟨T, x1, x2, _, h0, rfl, _⟩ := y
    exact (Fr.refl _).new h0) (fun i x H' H'' R hi e y kR => ?_) (fun D H' hD e hD' => ?_)
  · obtain ⟨T, x1, x2, rfl, h0, rfl, g1, g2⟩ := y
    obtain rfl := Option.some.inj g1
    obtain rfl := nth_at g2
    refine r_gtup (SqT.of upd_same) rfl (r_gcons (r_name (r_gcons (r_name (r_gnil ⟨hw _ _, ?_⟩)))))
    exact he i _ R (by omega) (e.trans ((Fr.refl _).new h0)) kR
  · rw [e1] at hD'
    exact hd D H' hD e (by rw [List.map_map]; exact hD')
/-! ## a comprehension within one -/
theorem relabel_free {env : Env} {x : Str} {names : List (Str × NameKind)} (h : names.lookup x = some .cell ∨ names.lookup x = some .free) :
    (names.map fun (n, k) => if (k == NameKind.free && env.scope.kind == .function && env.kindOf n == some .cell) then (n, NameKind.cell) else (n, k)).lookup x = some .cell ∨
    (names.map fun (n, k) => if (k == NameKind.free && env.scope.kind == .function && env.kindOf n == some .cell) then (n, NameKind.cell) else (n, k)).lookup x = some .free := by
  induction names with
  | nil =>
    rcases h with h | h
    · cases h
    · cases h
  | cons q r ih =>
    obtain ⟨n, k⟩ := q
    rw [List.map_cons]
    have hd : (if (k == NameKind.free && env.scope.kind == .function && env.kindOf n == some .cell) = true then (n, NameKind.cell) else (n, k)) = (n, if (k == NameKind.free && env.scope.kind == .function && env.kindOf n == some .cell) = true then NameKind.cell else k) := by
      split <;> rfl
    dsimp only
    rw [hd]
    by_cases e : (x == n) = true
    · rw [List.lookup_cons, e] at h ⊢
      dsimp only at h ⊢
      split
      · exact .inl rfl
      · exact h
    · have e := Bool.eq_false_iff.mpr e
      rw [List.lookup_cons, e] at h ⊢
      exact ih h
theorem blkRel {N : List Str} {sc scope : Scope} {env : Env} {own : List (Str × Nat)} (h : BlkOk N sc scope own) : BlkOk N (relabel sc env) scope own :=
  ⟨h.kind, h.uniq, h.ix, fun y hy e => relabel_free (h.free y hy e), h.own⟩
set_option Elab.async false
set_option linter.all false
set_option maxRecDepth 100000
set_option maxHeartbeats 4000000
/-! ## len(o) by an own __len__; max, min of three; a list taken apart -/
abbrev rLenP (C : Addr) (sp : Sp) : List V → Hp → VK → Prop := fun xs H Q => ∃ a dx fs, xs = [.ref a] ∧ H a = some (.ins C dx fs) ∧ sp [.ref a] H (fun v H' => ∃ n : Nat, v = .int n ∧ n < 1000000 ∧ Q (.int n) H') E0
section
variable {X : Cx} {C : Addr} {k : Nat}
theorem cr_lenP {sp : Sp} {st0 : Stmt} {q0 : Str} (h : Mth X.prog X.w X.K X.mg X.base C "__len__" ["self"] k sp st0 q0) (hr0 : Room (k + 1) X.A) : CallR X (.builtin "len") (rLenP C sp) := by
  intro pins s σ H xs us Q I r hq
  obtain ⟨f, fd, F, hm1, b0, cl, _⟩ := h.ex
  obtain ⟨a, dx, fs, rfl, ha, hsp⟩ := hq
  obtain ⟨u, rfl, rx⟩ := vals1 r
  cases rx
  have hr : Room k X.A.in1 := hr0.in1
  obtain ⟨mA, J, _⟩ := ins_get I.hok ha
  obtain ⟨od, J, _⟩ := J.look
  obtain ⟨m, hF⟩ := I.fr
  refine PySem.W.len_K hF I.ok.mod.kin J hm1.at_ hm1.fn (wpAny_call ?_)
  refine codeAny_mono (F.run X.A.in1 X.stack s H ⟨[.ref a], []⟩ [.ref a] [.ref a] _ E0 hr I.env0.in1 (by simpa using b0 s [.ref a] I.kIn rfl) (.cons rfl .nil) hsp) fun r s' hq => ?_
  cases r with
  | error e => exact hq.elim
  | ok fl =>
    cases fl with
    | ret w =>
      obtain ⟨z, H', I', rz, n, ez, hn, q⟩ := I.after hq
      subst ez
      obtain ⟨t, rfl⟩ := rz
      exact ⟨⟨by omega, by omega⟩, .int n, H', I'.tok _, ⟨_, rfl⟩, q⟩
    | next => exact False.elim hq
    | brk => exact False.elim hq
    | cont => exact False.elim hq
end
abbrev rMax3 : List V → Hp → VK → Prop := rNuC3 nuMax3
abbrev rMin3 : List V → Hp → VK → Prop := rNuC3 nuMin3
theorem r_max3 {H : Hp} {Q : VK} {i j k m : Int} (e : m = max (max i j) k) (q : Q (.int m) H) : rMax3 [.int i, .int j, .int k] H Q := by
  refine ⟨_, _, _, .int m, rfl, ?_, q⟩
  subst e
  have two : ∀ a b : Int, nuMax2 (.int a) (.int b) = some (.int (max a b)) := fun a b => by
    show some (if decide (a < b) = true then V.int b else V.int a) = _
    by_cases h : a < b
    · rw [if_pos (decide_eq_true h), Int.max_eq_right (Int.le_of_lt h)]
    · rw [if_neg (by simpa using h), Int.max_eq_left (by omega)]
  unfold nuMax3
  rw [two]
  exact two _ _
theorem r_min3 {H : Hp} {Q : VK} {i j k m : Int} (e : m = min (min i j) k) (q : Q (.int m) H) : rMin3 [.int i, .int j, .int k] H Q := by
  refine ⟨_, _, _, .int m, rfl, ?_, q⟩
  subst e
  have two : ∀ a b : Int, nuMin2 (.int a) (.int b) = some (.int (min a b)) := fun a b => by
    show some (if decide (b < a) = true then V.int b else V.int a) = _
    by_cases h : b < a
    · rw [if_pos (decide_eq_true h), Int.min_eq_right (Int.le_of_lt h)]
    · rw [if_neg (by simpa using h), Int.min_eq_left (by omega)]
  unfold nuMin3
  rw [two]
  exact two _ _
section
variable {K : PySem.W.Frag} {H : Hp} {Q : VK} {a : Addr} {σ : L2.St}
theorem r_sum {ns : List Int} (h : SqL K H a (ns.map V.int)) (q : Q (.int ns.sum) H) : rSum K [.ref a] H Q := ⟨a, ns, rfl, h, q⟩
theorem r_glst {k : Nat} {T : TGs} {R : L2.St → Hp → Prop} {xs : List V} (h : SqL K H a xs) (e : xs.length = k) (q : T xs σ H R) : gLst K k T (.ref a) σ H R := ⟨a, xs, rfl, h, e, q⟩
theorem r_notIn {x : V} {xs : List V} {b : Bool} (h : SqL K H a xs ∨ SqT K H a xs) (f : flatV x = true) (fs : xs.all flatV = true) (e : inV x xs = b) (q : Q (.bl (!b)) H) : rIn K true x (.ref a) H Q := by
  subst e
  exact ⟨a, xs, rfl, h, f, fs, q⟩
theorem r_in {x : V} {xs : List V} {b : Bool} (h : SqL K H a xs ∨ SqT K H a xs) (f : flatV x = true) (fs : xs.all flatV = true) (e : inV x xs = b) (q : Q (.bl b) H) : rIn K false x (.ref a) H Q := by
  subst e
  exact ⟨a, xs, rfl, h, f, fs, q⟩
theorem r_lenP {C dx : Addr} {fs : List (Str × V)} {sp : Sp} (h : H a = some (.ins C dx fs)) (q : sp [.ref a] H (fun v H' => ∃ n : Nat, v = .int n ∧ n < 1000000 ∧ Q (.int n) H') E0) : rLenP C sp [.ref a] H Q := ⟨a, dx, fs, rfl, h, q⟩
end
theorem r_par3 {σ : L2.St} {H : Hp} {D : Ends} {tas : TA} {i j l : Nat} (h : tas σ H fun vs H1 => ∃ u v w, vs = [u, v, w] ∧ D.nx (((σ.set i (some u)).set j (some v)).set l (some w)) H1) : tPar3 i j l tas D σ H := h
theorem r_expar3 {x y z : V} {R : V → V → V → Prop} (h : R x y z) : ∃ u v w, [x, y, z] = [u, v, w] ∧ R u v w := ⟨x, y, z, rfl, h⟩
set_option Elab.async false
set_option linter.all false
set_option maxRecDepth 100000
set_option maxHeartbeats 4000000
/-! ## defs that run where no repr is under way -/
structure FnG (P : Program) (w : World) (K : PySem.W.Frag) (mg : Str → Option Value) (base : Heap) (k : Nat) (f : Addr) (fd : FuncData) (ps : List Str) (sp : Sp) : Prop where
  len : ∀ vs H Q E, sp vs H Q E → vs.length = ps.length
  go : ∀ (B : Around) (up : List Env) (s : Shared) (H : Hp) (args : Args) (us : List Value) (vs : List V) (Q : VK) (E : XK),
    B.guards = some [] → Room k B → Env0 P w K mg base B up s H → BindsTo s fd args (ps.zip us) →
    Vals vs us → sp vs H Q E →
    codeAny (model P w) B (.call (.ref f) args) (CR CX0 up P w H s Q E) s
theorem fnG_of {P : Program} {w : World} {K : PySem.W.Frag} {mg : Str → Option Value} {base : Heap} {k : Nat} {f : Addr} {nm q : Str} {pr : Arguments} {bd : List Stmt} {sc : Scope} {fd : FuncData} {N ps : List Str} {sp : Sp}
    (D : FunD K nm q pr bd sc [] [] f fd) (S : FnScope N ps sc) (len : ∀ vs H Q E, sp vs H Q E → vs.length = ps.length)
    (body : ∀ (cdv : Value) (B : Around) (up : List Env) (s : Shared) (H : Hp) (vs : List V) (Q : VK) (E : XK), B.guards = some [] →
      Room k (B.deeper (envOfC q sc s.heap.objs.size f cdv)) → sp vs H Q E →
      ∃ t, PSs (cxOf CX0 P w K mg base N q sc f cdv B up s H E) bd t ∧ t ⟨fun _ H' => Q .non H', Q, fun _ _ => False, fun _ _ => False⟩ (start N vs) H) :
    FnG P w K mg base (k + 1) f fd ps sp := by
  obtain ⟨oc, od, dV, kV, doc, pm, an, cdv, ct, osl, rfl, lk, hcd, _, _⟩ := D.ex
  refine ⟨len, fun B up s H args us vs Q E gd room e0 bnd rel hsp => ?_⟩
  have kin : K.In s.heap := e0.mod.kin.keeps fun b o e => (e0.bs b o e).1
  have nolim := e0.mod.nolimit.keeps fun b o e => (e0.bs b o e).1
  have locals : ∀ y ∈ ps.zip us, sc.names.lookup y.1 = some .local ∨
      (sc.names.lookup y.1 = some .cell ∧ ((cellsFrom (s.heap.objs.size + 1) sc.names []).lookup y.1).isSome = true) := by
    rintro ⟨n, v⟩ hy
    exact (S.par n (List.of_mem_zip hy).1).imp_right fun c => ⟨c, PySem.W.cellsFrom_some _ _ _ (.inl c)⟩
  refine codeAny_call_function room.depth (kin _ _ lk) rfl S.co S.gen rfl (PySem.W.codeRec_of kin hcd) (bnd _ _ _ _ ?_)
  refine wpAny_newFunctionEnv_cells S.kind locals fun env ev s1 made => ?_
  subst ev
  refine ⟨nolim.keeps made.toInCall.keep, codeAny_func ?_⟩
  obtain ⟨t, pt, go⟩ := body cdv B up s H vs Q E gd (room.deeper _) hsp
  have I0 : Inv (cxOf CX0 P w K mg base N q sc f cdv B up s H E) [] (start N vs) H s1 :=
    inv_start S room.hd e0 (len _ _ _ _ hsp) rel made
  refine wpAny_mono (pt.run [] s1 (start N vs) H _ I0 go) (fun out s2 r => ?_) fun _ _ r => r
  have out_ : ∀ {σ2 : L2.St} {H2 : Hp} {v : V} {u : Value},
      Inv (cxOf CX0 P w K mg base N q sc f cdv B up s H E) [] σ2 H2 s2 → RelV v u → Q v H2 → CE up P w H s Q u s2 :=
    fun {σ2 H2 v u} J rv z => ⟨v, H2, J.os, J.bare, J.base, J.hok, rv, z⟩
  cases out with
  | next =>
    obtain ⟨σ2, H2, J, z⟩ := r
    exact out_ (v := .non) (u := .none) J rfl z
  | ret u =>
    obtain ⟨v, σ2, H2, J, rv, z⟩ := r
    exact out_ J rv z
  | brk => exact r.elim fun _ h => h.elim fun _ h => h.2.elim
  | cont => exact r.elim fun _ h => h.elim fun _ h => h.2.elim
structure FkG (P : Program) (w : World) (K : PySem.W.Frag) (mg : Str → Option Value) (base : Heap) (x : Str) (ps : List Str) (k : Nat) (sp : Sp) (st : Stmt) (q : Str) : Prop where
  ex : ∃ (f : Addr) (fd : FuncData), FnG P w K mg base k f fd ps sp ∧ mg x = some (.ref f) ∧ PySem.W.keepIn K (.ref f) = true ∧ Binds K fd ps [] ∧ FunD K x q (defArgs st) (defBody st) (defScope st) [] [] f fd
def BodyG (P : Program) (w : World) (K : PySem.W.Frag) (mg : Str → Option Value) (base : Heap) (d : Df) (N : List Str) (k : Nat) (sp : Sp) : Prop :=
  ∀ (cdv : Value) (A : Around) (outer : List Env) (s : Shared) (H : Hp) (vs : List V) (Q : VK) (E : XK), A.guards = some [] → Room k (A.deeper (envOfC d.qual (defScope d.st) s.heap.objs.size (d.at_ K) cdv)) → sp vs H Q E →
      ∃ t, PSs (cxOf CX0 P w K mg base N d.qual (defScope d.st) (d.at_ K) cdv A outer s H E).nox (defBody d.st) t ∧ t { nx := fun _ H' => Q .non H', rt := Q } (start N vs) H
section
variable {fa : List Fb} {fn : List Df} {K : PySem.W.Frag} {mg : Str → Option Value} {base : Heap} {P : Program} {w : World}
theorem Tx.fkG (T : Tx fa fn K mg base) (i j : Nat) {x q : Str} {st : Stmt} {N ps : List Str} {k : Nat} {sp : Sp} (S : FnScope N ps (defScope st)) (hb : BndOk ⟨fun K => He.ga K x, x, q, st⟩ ps) (len : ∀ vs H Q E, sp vs H Q E → vs.length = ps.length)
    (body : BodyG P w K mg base ⟨fun K => He.ga K x, x, q, st⟩ N k sp) (hd : fn[i]? = some ⟨fun K => He.ga K x, x, q, st⟩ := by rfl) (hg : fa[j]? = some (.b (.glo x)) := by rfl) : FkG P w K mg base x ps (k + 1) sp st q := by
  obtain ⟨fd, F⟩ := T.def_ i hd
  refine ⟨_, fd, fnG_of F S len fun cdv A outer s H vs Q E gd hr h => ?_, T.glo j hg, F.kp, F.bindsN hb, F⟩
  obtain ⟨t, h1, h2⟩ := body cdv A outer s H vs Q E gd hr h
  exact ⟨t, PSs.nox h1, h2⟩
end
section
variable {X : Cx} {x q : Str} {st : Stmt} {ps : List Str} {k j : Nat} {sp : Sp} {p pos : Pos} {e : Expr} {es : List Expr} {t : TA}
theorem pe_fG (h : FkG X.prog X.w X.K X.mg X.base x ps k sp st q) (gd : X.A.guards = some []) (hr : Room j X.A) (ha : PA X (e :: es) t) (hj : k ≤ j := by decide) (hg : Gl X x := by rfl) (hdb : (x == ("__debug__" : Str)) = false := by decide)
    (he : starEach (e :: es) X.env = (false, eval e X.env) :: starEach es X.env := by rfl) (hpl : (backTo pos (starEach es X.env)).any (·.1) = false := by rfl) : PE X (.Call (.Name x p) (e :: es) [] pos) (tCall sp [] E0 t) := by
  obtain ⟨f, fd, F, hm, kp, b, _⟩ := h.ex
  refine ⟨fun pins s σ H Q I hh => wpAny_Call_Name_kw (ld_glob I hg hm ?_ hdb)⟩
  refine PySem.W.callWith_K (h₀ := X.base) I.ok.mod.kin kp (thn (ha.run pos pins s σ H _ I hh) ?_) he hpl
  rintro us s1 ⟨vs, H1, I1, r, z⟩
  replace z : sp (vs ++ []) H1 Q E0 := z
  rw [List.append_nil] at z
  have hl : us.length = ps.length := r.length.symm.trans (F.len _ _ _ _ z)
  have bnd : BindsTo s1 fd ⟨us, []⟩ (ps.zip us) := by
    have := b s1 us I1.kIn (by rw [List.append_nil]; exact hl)
    rwa [List.append_nil] at this
  refine ⟨I1.kIn, wpAny_call (codeAny_mono (F.go X.A X.stack s1 H1 ⟨us, []⟩ us vs Q E0 gd (hr.mono hj) I1.env0 bnd r z) fun out s2 y => ?_)⟩
  cases out with
  | error e => exact y.elim
  | ok fl =>
    cases fl with
    | ret u => exact I1.after y
    | next => exact False.elim y
    | brk => exact False.elim y
    | cont => exact False.elim y
end
/-! ## repr of data -/
def rRepr (K : PySem.W.Frag) : List V → Hp → VK → Prop := fun xs H Q => ∃ (a : Addr) (d : PyData), xs = [.ref a] ∧ Dp K H (.ref a) d ∧ (d.showable = true ∧ d.hasDict = false ∧ d.depth ≤ 60 ∧ d.shown.length ≤ sizeLine) ∧ Q (.str d.shown) H
theorem cr_repr {X : Cx} (gd : X.A.guards = some []) (hu : X.A.units + 64 < cLine) : CallR X (.builtin "repr") (rRepr X.K) := by
  intro pins s σ H xs us Q I r h
  obtain ⟨a, d, rfl, dp, ⟨h1, h2, h3, h4⟩, z⟩ := h
  rw [Vals.ref1 r]
  obtain ⟨as, rd⟩ := Dp.reads I d _ (.ref a) dp rfl
  exact repr_of_reads' rd h1 (PyData.noDict_hsm h2) gd (by omega) (fun _ _ e => e) (fun h' u tk hk => ⟨.str d.shown, H, I.kept hk, ⟨u, rfl⟩, z⟩) h4
/-! ## a law's end, where its own def runs so -/
section
variable {P : Program} {w : World} {K : PySem.W.Frag} {mg mb : Str → Option Value} {k : Nat} {fa a : Addr} {fd : FuncData} {x : Str} {sp : Sp} {s1 : Shared} {vs : List Value} {ns : List Int}
/-- what the law's call comes to -/
abbrev Fine (s1 : Shared) (r : Result) (s2 : Shared) : Prop := r = .ok (.ret (.bool true)) ∧ OldK s1.heap s2.heap ∧ s2.os = s1.os ∧ AllBare s2.gens
theorem law_mid (kin : K.In s1.heap) (gns : s1.heap.Ns mainGlobals mg) (bns : s1.heap.Ns builtinsNs mb) (bis : ∀ y : Str, y ≠ "__name__" → mb y = bootBuiltins y) (nol : s1.heap.NoLimit) (gen0 : s1.gens = #[])
    (la : s1.heap.get? a = some { cls := .type "list", data := .seq vs.toArray }) (room : Room k callerA)
    (F : ∀ bs : Heap, K.In bs → bs.Ns mainGlobals mg → FnG P w K mg bs k fa fd [x] sp)
    (bnd : ∀ (s : Shared) (u : Value), BindsTo s fd ⟨[u], []⟩ [(x, u)])
    {H : Hp} (only : Only H) (say : sp [.ref a] H (fun v _ => v = .bl true) fun _ _ _ => False)
    (okH : HOk P w H s1.heap) (isA : ∀ b, H b ≠ none → b = a) (noK : H a ≠ none → K.lookup a = none) :
    codeAny (model P w) callerA (.call (.ref fa) ⟨[.ref a], []⟩) (Fine s1) s1 := by
  have keep0 : ∀ {b : Addr} {o : Obj}, s1.heap.get? b = some o → H b = none →
      (hidT s1.heap H).get? b = some o := fun e n => hidT_get e n
  have free : ∀ {b : Addr} {o : Obj} {es : Array DictEntry} {ep : Nat},
      s1.heap.get? b = some o → o.data = .dict es ep → H b = none := by
    intro b o es ep e d
    cases c : H b with
    | none => rfl
    | some u =>
      obtain rfl := isA b (by rw [c]; exact nofun)
      rw [la] at e
      obtain rfl := Option.some.inj e
      exact absurd d (by exact nofun)
  have nsT : ∀ {b : Addr} {m : Str → Option Value}, s1.heap.Ns b m → (hidT s1.heap H).Ns b m := by
    rintro b m ⟨o, es, ep, e, d, z⟩
    exact ⟨o, es, ep, keep0 e (free e d), d, z⟩
  have kinT : K.In (hidT s1.heap H) := by
    intro b o e
    refine keep0 (kin b o e) ?_
    cases c : H b with
    | none => rfl
    | some u =>
      obtain rfl := isA b (by rw [c]; exact nofun)
      rw [noK (by rw [c]; exact nofun)] at e
      cases e
  obtain ⟨mc, c1, c2⟩ := nol
  have env : Env0 P w K mg (hidT s1.heap H) callerA [] s1 H :=
    ⟨rfl, ⟨kinT, nsT gns, ⟨mb, nsT bns, bis⟩, mc, nsT c1, c2⟩, fun b o e => of_hidT e, Nat.le_of_eq (hidT_size _ _), trivial, fun b hb => absurd hb List.not_mem_nil, okH, .of_eq gen0⟩
  have go := (F _ kinT (nsT gns)).go callerA [] s1 H ⟨[.ref a], []⟩ [.ref a] [.ref a] (fun v _ => v = .bl true) (fun _ _ _ => False)
    rfl room env (bnd s1 (.ref a)) (.cons rfl .nil) say
  refine codeAny_mono go fun r s2 out => ?_
  cases r with
  | error e => exact False.elim out
  | ok fl =>
    cases fl with
    | next => exact False.elim out
    | brk => exact False.elim out
    | cont => exact False.elim out
    | ret u =>
      obtain ⟨v, H2, os, bare, un, ok2, rv, z⟩ := out
      obtain rfl : v = .bl true := z
      obtain rfl : u = Value.bool true := rv
      refine ⟨rfl, OldK.of_keep fun b o e => ?_, os, bare⟩
      cases c : H b with
      | none => exact un.keep b o e c (fun m => absurd m List.not_mem_nil) (fun m => absurd m List.not_mem_nil)
      | some y =>
        rcases only b with n | ⟨ob, xs, n⟩
        · rw [c] at n
          cases n
        · obtain ⟨g1, _⟩ := okH b _ n
          obtain ⟨g2, _⟩ := ok2 b _ (un.frzs b ob _ n)
          rw [e] at g1
          cases g1
          exact g2
end
theorem walk_ofG {l : PySem.W.OpenLaw} {n k : Nat} {q : Program} {loose : List Str} {XP : (Str → Option Value) → Heap → Prop} {YP : World → Heap → Prop} {d : DefRec} {x : Str}
    (hn : l.most = some n) (hn2 : n ≤ sizeLine) (hdf : d.params.defaults = []) (room : Room k callerA)
    (F : ∀ (w : World) (mg : Str → Option Value) (fa : Addr) (h : Heap), YP w h → h.Ns mainGlobals mg → mg d.name = some (.ref fa) → ∃ (K : PySem.W.Frag) (fd : FuncData) (sp : Sp), K.In h ∧
      (∀ (s : Shared) (u : Value), BindsTo s fd ⟨[u], []⟩ [(x, u)]) ∧ (∀ (H : Hp) (a : Addr) (ns : List Int), ns.length ≤ n → Only H → SqL K H a (ns.map V.int) → sp [.ref a] H (fun v _ => v = .bl true) fun _ _ _ => False) ∧
      ∀ bs : Heap, K.In bs → bs.Ns mainGlobals mg → FnG l.prog w K mg bs k fa fd [x] sp) :
    PySem.W.WalkO q loose XP YP l.row.toRowW d [] (fun f vs => PySem.call f vs) := by
  refine Att.attach_call hn hdf fun w s0 s1 mg mb fa o pm cd doc a vs ns G Y ho hd hcd hmg la whole len gen0 => ?_
  obtain ⟨K, fd, sp, kin, bnd, say, hF⟩ := F w mg fa _ Y G.T.g hmg
  have rv := vals_ints whole
  have lv := whole.length
  have lz : ns.length ≤ sizeLine := Nat.le_trans len hn2
  by_cases c : K.lookup a = none
  · let H : Hp := fun b => if b = a then some (.frz { cls := .type "list", data := .seq vs.toArray } (.lst (ns.map V.int))) else none
    have at_ : H a = some (.frz { cls := .type "list", data := .seq vs.toArray } (.lst (ns.map V.int))) := if_pos rfl
    have off : ∀ b, b ≠ a → H b = none := fun b h => if_neg h
    have only : Only H := fun b => by
      by_cases h : b = a
      · exact .inr ⟨_, _, h ▸ at_⟩
      · exact .inl (off b h)
    refine law_mid kin G.T.g G.T.b G.T.builtins G.T.nolimit gen0 la room hF bnd only (say H a ns len only (.inl (.inr ⟨_, at_⟩))) (fun b u e => ?_) (fun b h => ?_) fun _ => c
    · by_cases h : b = a
      · subst h
        rw [at_] at e
        obtain rfl := Option.some.inj e
        exact ⟨la, by rw [List.length_map]; exact lz, vs, _, rv, la⟩
      · rw [off b h] at e
        cases e
    · by_cases h2 : b = a
      · exact h2
      · exact absurd (off b h2) h
  · obtain ⟨ob, c⟩ := Option.ne_none_iff_exists'.mp c
    have e := kin a ob c
    rw [la] at e
    obtain rfl := Option.some.inj e
    have sq : SqL K (fun _ => none) a (ns.map V.int) := .inr ⟨_, vs.toArray, _, c, rfl, rfl, rfl, by rw [List.size_toArray, lv]; exact lz, by simpa using rv⟩
    exact law_mid kin G.T.g G.T.b G.T.builtins G.T.nolimit gen0 la room hF bnd (H := fun _ => none) (fun _ => .inl rfl) (say _ a ns len (fun _ => .inl rfl) sq) (fun b u e => nomatch e) (fun b h => absurd rfl h) fun h => absurd rfl h
set_option Elab.async false
set_option linter.all false
set_option maxRecDepth 100000
set_option maxHeartbeats 4000000
/-! ## own == and != beside any object -/
theorem sub_no {K : PySem.W.Frag} {C : Addr} {T : String} {l : List Value} (h : fastBuiltinMro T = some l) (h2 : (l.all fun v => match v with | .type _ => true | _ => false) = true) : PySem.W.subIn K (.type T) (.ref C) = some false := by
  show (fastBuiltinMro T).map (·.contains (.ref C)) = some false
  rw [h, Option.map_some]
  congr 1
  refine Bool.eq_false_iff.mpr fun e => ?_
  have m := List.all_eq_true.mp h2 _ (List.contains_iff_mem.mp e)
  cases m
theorem looks_is {M : Model} {s : Shared} {u : Value} {T : String} (h : s.TypeIs u T) : PySem.W.Looks M s.heap (typeOf u) (.type T) := by
  cases u with
  | ref a =>
    obtain ⟨o, e, c⟩ := h
    exact fun A Q E s k q => wpAny_typeOf_ref (k _ _ e) (by rw [c]; exact q)
  | _ => exact .of_pure h
/-- a built-in type of which no class of ours is a base -/
inductive TyN : String → Prop where
  | none : TyN "NoneType"
  | int : TyN "int"
  | bool : TyN "bool"
  | str : TyN "str"
  | list : TyN "list"
  | tuple : TyN "tuple"
  | dict : TyN "dict"
theorem TyN.sub {K : PySem.W.Frag} {C : Addr} {T : String} (h : TyN T) : PySem.W.subIn K (.type T) (.ref C) = some false := by
  cases h
  · exact sub_no (l := [.type "NoneType", .type "object"]) (by kernel_rfl) rfl
  · exact sub_no (l := [.type "int", .type "object"]) (by kernel_rfl) rfl
  · exact sub_no (l := [.type "bool", .type "int", .type "object"]) (by kernel_rfl) rfl
  · exact sub_no (l := [.type "str", .type "object"]) (by kernel_rfl) rfl
  · exact sub_no (l := [.type "list", .type "object"]) (by kernel_rfl) rfl
  · exact sub_no (l := [.type "tuple", .type "object"]) (by kernel_rfl) rfl
  · exact sub_no (l := [.type "dict", .type "object"]) (by kernel_rfl) rfl
/-- what stands beside: one of ours, or of a built-in type -/
def Beside (K : PySem.W.Frag) (C : Addr) (H : Hp) (y : V) : Prop := (∃ b dy gs, y = .ref b ∧ H b = some (.ins C dy gs)) ∨ ∃ T, TyB K H y T ∧ TyN T
abbrev rEqX (K : PySem.W.Frag) (C : Addr) (sp : Sp) : R2 := fun x y H Q => ∃ a dx fs, x = .ref a ∧ H a = some (.ins C dx fs) ∧ Beside K C H y ∧ sp [.ref a, y] H (fun v H' => ∃ r, v = .bl r ∧ Q (.bl r) H') E0
abbrev rNeX (K : PySem.W.Frag) (C : Addr) (sp : Sp) : R2 := fun x y H Q => ∃ a dx fs, x = .ref a ∧ H a = some (.ins C dx fs) ∧ Beside K C H y ∧ sp [.ref a, y] H (fun v H' => ∃ r, v = .bl r ∧ Q (.bl (!r)) H') E0
section
variable {X : Cx} {C : Addr} {k : Nat}
theorem Beside.type {pins : List (Addr × Obj)} {σ : L2.St} {H : Hp} {s : Shared} {y : V} {u : Value} {M : Model} (I : Inv X pins σ H s) (ry : RelV y u) (h : Beside X.K C H y) : ∃ tb, PySem.W.Looks M s.heap (typeOf u) tb ∧ PySem.W.notFirst X.K C tb = true ∧ (tb = .ref C ∨ tb ≠ .ref C ∧ PySem.W.subIn X.K tb (.ref C) = some false) := by
  rcases h with ⟨b, dy, gs, rfl, hb⟩ | ⟨T, ty, tn⟩
  · cases ry
    obtain ⟨mB, J', _⟩ := ins_get I.hok hb
    obtain ⟨od', J', _⟩ := J'.look
    exact ⟨.ref C, J'.type, by simp [PySem.W.notFirst], .inl rfl⟩
  · exact ⟨.type T, looks_is (ty.is I ry), by simp [PySem.W.notFirst, tn.sub], .inr ⟨nofun, tn.sub⟩⟩
theorem op_eqX {sp : Sp} {st0 : Stmt} {q0 : Str} (h : Mth X.prog X.w X.K X.mg X.base C "__eq__" ["self", "other"] k sp st0 q0) (hr0 : Room (k + 1) X.A) : OpR X (compareOp .Eq) (rEqX X.K C sp) := by
  intro pins s σ H x y v u Q I rx ry hq
  obtain ⟨f, fd, F, hm, b0, cl, _⟩ := h.ex
  obtain ⟨a, dx, fs, rfl, ha, bs, hsp⟩ := hq
  cases rx
  have hr : Room k X.A := hr0.mono (Nat.le_succ _)
  obtain ⟨mA, J, _⟩ := ins_get I.hok ha
  obtain ⟨od, J, _⟩ := J.look
  obtain ⟨tb, lk, nf, _⟩ := bs.type (M := model X.prog X.w) I ry
  obtain ⟨m, hF⟩ := I.fr
  show wpAny (model X.prog X.w) X.A (richCompare .Eq (.ref a) u) _ _ s
  refine PySem.W.cmp_K (op := .Eq) hr.units0 hF I.ok.mod.kin J lk nf hm.at_ hm.fn (wpAny_call ?_)
  refine codeAny_mono (F.run X.A X.stack s H ⟨[.ref a, u], []⟩ [.ref a, u] [.ref a, y] _ E0 hr I.env0 (by simpa using b0 s [.ref a, u] I.kIn rfl) (.cons rfl (.cons ry .nil)) hsp) fun r s' hq => ?_
  cases r with
  | error e => exact hq.elim
  | ok fl =>
    cases fl with
    | ret w =>
      obtain ⟨z, H', I', rz, r, ez, q⟩ := I.after hq
      subst ez
      cases rz
      exact ⟨.bl r, H', I', rfl, q⟩
    | next => exact False.elim hq
    | brk => exact False.elim hq
    | cont => exact False.elim hq
end
section
variable {prog : Program} {w : World} {A : Around} {E : Value → Shared → Prop} {s : Shared} {K : PySem.W.Frag} {x C f : Addr} {ox : Obj} {od : Option Obj} {u tb : Value}
open PySem.W in
theorem neX_body {Q : Fin → Shared → Prop} (hu : A.units < cLine) (X : K.In s.heap) (I : InstAt s.heap x ox C od) (he : findIn K (.ref C) "__eq__" = some (some (.ref f))) (hf : isFn K (.ref f) = true)
    (h : wpAny (model prog w) A (call (.ref f) [.ref x, u]) (fun v s' => ∃ b, v = .bool b ∧ Q (.done (.ret (.bool (!b)))) s') E s) : wpAny (model prog w) A (Builtin.«object.__ne__» ⟨[.ref x, u], []⟩) Q E s := by
  obtain ⟨hp, g, d, t, os⟩ := s
  unfold Builtin.«object.__ne__»
  repeat (first
    | with_reducible refine wpAny_cRoomFor hu ?_
    | (refine wpAny_bind (m := callSpecialIfBound? (.ref x) (Str.ofString "__eq__") [u]) (ifBound_K X I he hf (wpAny_mono h (fun r s' hr => ?_) fun _ _ e => e)); obtain ⟨b, rfl, hq⟩ := hr)
    | (refine wpAny_bind (m := truthy (.bool _)) (wpAny_truthy_bool ?_))
    | exact hq | exact wpAny_pure hq
    | wp_step)
open PySem.W in
theorem neX_try {Q : Option Value → Shared → Prop} (hu : A.units + 1 < cLine) (X : K.In s.heap) (I : InstAt s.heap x ox C od) (hn : findIn K (.ref C) "__ne__" = some (some (.builtin "object.__ne__"))) (hm : mroIn K C (.type "object") = some true)
    (he : findIn K (.ref C) "__eq__" = some (some (.ref f))) (hf : isFn K (.ref f) = true)
    (h : wpAny (model prog w) A.in1 (call (.ref f) [.ref x, u]) (fun v s' => ∃ b, v = .bool b ∧ Q (some (.bool (!b))) s') E s) : wpAny (model prog w) A (tryCompare (.ref x) "__ne__" u) Q E s := by
  have S := F.cmp_object.ne
  have sub : Looks (model prog w) s.heap (isInstance (.ref x) (.type "object")) true := I.type.andThen (looks_mroIn X hm)
  unfold tryCompare
  refine wpAny_bind (bound_B S X I hn ?_)
  refine wpAny_call (codeAny_call_builtin S.plain F.cmpEntry_ne (check_slot F.cmpKind_ne F.cmpSplit_ne sub (F.cmpArgs_ne _ _) ?_))
  refine neX_body (A := A.in1) hu X I he hf (wpAny_mono h (fun v s' hv => ?_) fun _ _ e => e)
  obtain ⟨b, e, q⟩ := hv
  exact ⟨b, e, wpAny_pure q⟩
open PySem.W in
theorem neX_K {Q : Value → Shared → Prop} (hu : A.units + 1 < cLine) (X : K.In s.heap) (I : InstAt s.heap x ox C od) (J : Looks (model prog w) s.heap (typeOf u) tb) (nf : tb = .ref C ∨ tb ≠ .ref C ∧ subIn K tb (.ref C) = some false) (hn : findIn K (.ref C) "__ne__" = some (some (.builtin "object.__ne__"))) (hm : mroIn K C (.type "object") = some true)
    (he : findIn K (.ref C) "__eq__" = some (some (.ref f))) (hf : isFn K (.ref f) = true)
    (h : wpAny (model prog w) A.in1 (call (.ref f) [.ref x, u]) (fun v s' => ∃ b, v = .bool b ∧ Q (.bool (!b)) s') E s) : wpAny (model prog w) A (richCompare .NotEq (.ref x) u) Q E s := by
  have go := neX_try (Q := fun r s' => ∃ b, r = some (.bool b) ∧ Q (.bool b) s') hu X I hn hm he hf (wpAny_mono h (fun v s' hv => by
    obtain ⟨b, e, q⟩ := hv
    exact ⟨b, e, _, rfl, q⟩) fun _ _ e => e)
  unfold richCompare
  simp only [oneThing_ref]
  refine wpAny_holding (wpAny_bind (wpAny_cRoomFor (Nat.lt_of_succ_lt hu) (wpAny_bind (I.type.here (wpAny_bind (J.here ?_))))))
  rcases nf with rfl | ⟨n1, n2⟩
  · rw [show (Value.ref C != Value.ref C) = false by simp]
    simp only [Bool.false_eq_true, if_false]
    refine wpAny_bind (wpAny_pure ?_)
    simp only [Bool.false_eq_true, if_false]
    refine wpAny_bind (wpAny_mono go (fun r s' z => ?_) fun _ _ e => e)
    obtain ⟨b, rfl, q⟩ := z
    exact wpAny_pure q
  · rw [show (Value.ref C != tb) = true by simpa using fun e => n1 e.symm]
    simp only [if_true]
    refine wpAny_bind ((looks_subIn X n2).here ?_)
    simp only [Bool.false_eq_true, if_false]
    refine wpAny_bind (wpAny_mono go (fun r s' z => ?_) fun _ _ e => e)
    obtain ⟨b, rfl, q⟩ := z
    exact wpAny_pure q
end
section
variable {X : Cx} {C : Addr} {k : Nat}
theorem op_neX {sp : Sp} {st0 : Stmt} {q0 : Str} (h : Mth X.prog X.w X.K X.mg X.base C "__eq__" ["self", "other"] k sp st0 q0) (hn : PySem.W.findIn X.K (.ref C) "__ne__" = some (some (.builtin "object.__ne__"))) (hm : PySem.W.mroIn X.K C (.type "object") = some true) (hr0 : Room (k + 1) X.A) : OpR X (compareOp .NotEq) (rNeX X.K C sp) := by
  intro pins s σ H x y v u Q I rx ry hq
  obtain ⟨f, fd, F, hm1, b0, cl, _⟩ := h.ex
  obtain ⟨a, dx, fs, rfl, ha, bs, hsp⟩ := hq
  cases rx
  have hr : Room k X.A.in1 := hr0.in1
  obtain ⟨mA, J, _⟩ := ins_get I.hok ha
  obtain ⟨od, J, _⟩ := J.look
  obtain ⟨tb, lk, _, nf⟩ := bs.type (M := model X.prog X.w) I ry
  show wpAny (model X.prog X.w) X.A (richCompare .NotEq (.ref a) u) _ _ s
  refine neX_K (by have := hr0.units; omega) I.kIn J lk nf hn hm hm1.at_ hm1.fn (wpAny_call ?_)
  refine codeAny_mono (F.run X.A.in1 X.stack s H ⟨[.ref a, u], []⟩ [.ref a, u] [.ref a, y] _ E0 hr I.env0.in1 (by simpa using b0 s [.ref a, u] I.kIn rfl) (.cons rfl (.cons ry .nil)) hsp) fun r s' hq => ?_
  cases r with
  | error e => exact hq.elim
  | ok fl =>
    cases fl with
    | ret w =>
      obtain ⟨z, H', I', rz, r, ez, q⟩ := I.after hq
      subst ez
      cases rz
      exact ⟨r, rfl, .bl (!r), H', I', rfl, q⟩
    | next => exact False.elim hq
    | brk => exact False.elim hq
    | cont => exact False.elim hq
end
/-! ## C(k = v, ..) -/
section
variable {X : Cx} {x q : Str} {st : Stmt} {ps ks : List Str} {k j : Nat} {sp : Sp} {p pos : Pos} {C : Addr} {kws : List Keyword} {tk : TA} {g : {α : Type} → List α → List α → List α}
theorem pe_mkK (h : Ini X.prog X.w X.K X.mg X.base C ps k sp st q) (hm : X.mg x = some (.ref C)) (hr : Room j X.A) (kb : KwOk "__init__" q st ps ks 1 g) (rel : ∀ {vs : List V} {us : List Value} {zs : List V} {ws : List Value}, Vals vs us → Vals zs ws → Vals (g vs zs) (g us ws)) (hkw : PK X kws tk)
    (hj : k + 1 ≤ j := by decide) (hg : Gl X x := by rfl) (hdb : (x == ("__debug__" : Str)) = false := by decide) (hall : (backToKw pos (keywordEach kws X.env)).all (·.1.isSome) = true := by rfl) (hks : (backToKw pos (keywordEach kws X.env)).filterMap (·.1) = ks := by rfl)
    (hpl : ((backTo pos (starEach [] X.env)).any (·.1) || (backToKw pos (keywordEach kws X.env)).any (·.1.isNone)) = false := by rfl) : PE X (.Call (.Name x p) [] kws pos) (tMakeK C 0 ks.length sp g E0 tNil tk) := by
  obtain ⟨f, fd, F, M, b, fu⟩ := h.ex
  exact pe_makeK0 M F (hr.mono hj) hg hm ⟨fun s us ws _ l1 l2 => kw_to fu kb s us ws l1 l2, rel⟩ pass0 hkw hall hks hdb hpl
end
set_option Elab.async false
set_option linter.all false
set_option maxRecDepth 100000
set_option maxHeartbeats 4000000
def top (i : Nat) : Stmt := PySem.Challenge.pw_evenbits_k01_plans_made.main.body.getD i (.Pass ⟨0, 0, 0, 0⟩)
abbrev s_is_whole : Stmt := top 3
theorem sc_is_whole : FnScope ["thing"] ["thing"] (defScope s_is_whole) := ⟨rfl, rfl, rfl, by decide +kernel, rfl, by decide +kernel, by decide +kernel⟩
abbrev s_is_whole_list : Stmt := top 5
theorem sc_is_whole_list : FnScope ["thing", "entry"] ["thing"] (defScope s_is_whole_list) := ⟨rfl, rfl, rfl, by decide +kernel, rfl, by decide +kernel, by decide +kernel⟩
abbrev s_is_at_most : Stmt := top 6
theorem sc_is_at_most : FnScope ["row", "other", "one", "two"] ["row", "other"] (defScope s_is_at_most) := ⟨rfl, rfl, rfl, by decide +kernel, rfl, by decide +kernel, by decide +kernel⟩
abbrev s_Plan___init__ : Stmt := inClass (top 13) 0
theorem sc_Plan___init__ : FnScope ["self", "low", "high", "least", "most", "bounds", "numbers"] ["self", "low", "high", "least", "most"] (defScope s_Plan___init__) := ⟨rfl, rfl, rfl, by decide +kernel, rfl, by decide +kernel, by decide +kernel⟩
abbrev s_Plan_times : Stmt := inClass (top 13) 1
theorem sc_Plan_times : FnScope ["self"] ["self"] (defScope s_Plan_times) := ⟨rfl, rfl, rfl, by decide +kernel, rfl, by decide +kernel, by decide +kernel⟩
abbrev s_Plan_low : Stmt := inClass (top 13) 2
theorem sc_Plan_low : FnScope ["self"] ["self"] (defScope s_Plan_low) := ⟨rfl, rfl, rfl, by decide +kernel, rfl, by decide +kernel, by decide +kernel⟩
abbrev s_Plan_high : Stmt := inClass (top 13) 3
theorem sc_Plan_high : FnScope ["self"] ["self"] (defScope s_Plan_high) := ⟨rfl, rfl, rfl, by decide +kernel, rfl, by decide +kernel, by decide +kernel⟩
abbrev s_Plan_least : Stmt := inClass (top 13) 4
theorem sc_Plan_least : FnScope ["self"] ["self"] (defScope s_Plan_least) := ⟨rfl, rfl, rfl, by decide +kernel, rfl, by decide +kernel, by decide +kernel⟩
abbrev s_Plan_most : Stmt := inClass (top 13) 5
theorem sc_Plan_most : FnScope ["self"] ["self"] (defScope s_Plan_most) := ⟨rfl, rfl, rfl, by decide +kernel, rfl, by decide +kernel, by decide +kernel⟩
abbrev s_Plan_total : Stmt := inClass (top 13) 6
theorem sc_Plan_total : FnScope ["self"] ["self"] (defScope s_Plan_total) := ⟨rfl, rfl, rfl, by decide +kernel, rfl, by decide +kernel, by decide +kernel⟩
abbrev s_Plan___len__ : Stmt := inClass (top 13) 7
theorem sc_Plan___len__ : FnScope ["self"] ["self"] (defScope s_Plan___len__) := ⟨rfl, rfl, rfl, by decide +kernel, rfl, by decide +kernel, by decide +kernel⟩
abbrev s_Plan___eq__ : Stmt := inClass (top 13) 8
theorem sc_Plan___eq__ : FnScope ["self", "other"] ["self", "other"] (defScope s_Plan___eq__) := ⟨rfl, rfl, rfl, by decide +kernel, rfl, by decide +kernel, by decide +kernel⟩
abbrev s__law_jar : Stmt := top 15
theorem sc__law_jar : FnScope ["script", "k", "cell_here"] ["script", "k"] (defScope s__law_jar) := ⟨rfl, rfl, rfl, by decide +kernel, rfl, by decide +kernel, by decide +kernel⟩
abbrev s__law_dip : Stmt := top 16
theorem sc__law_dip : FnScope ["jar", "many", "digit", "mixed"] ["jar", "many"] (defScope s__law_dip) := ⟨rfl, rfl, rfl, by decide +kernel, rfl, by decide +kernel, by decide +kernel⟩
abbrev s__law_around : Stmt := top 17
theorem sc__law_around : FnScope ["jar", "drawn", "wide", "lows", "highs", "leasts", "mosts", "here", "entry"] ["jar", "drawn", "wide"] (defScope s__law_around) := ⟨rfl, rfl, rfl, by decide +kernel, rfl, by decide +kernel, by decide +kernel⟩
abbrev s__law_small : Stmt := top 18
theorem sc__law_small : FnScope ["jar", "longest", "drawn", "lows", "highs", "leasts", "mosts", "turn", "entry"] ["jar", "longest"] (defScope s__law_small) := ⟨rfl, rfl, rfl, by decide +kernel, rfl, by decide +kernel, by decide +kernel⟩
abbrev s__law_great : Stmt := top 19
theorem sc__law_great : FnScope ["jar", "longest", "size", "drawn", "turn", "some", "lows", "highs", "leasts", "mosts", "spot", "entry"] ["jar", "longest"] (defScope s__law_great) := ⟨rfl, rfl, rfl, by decide +kernel, rfl, by decide +kernel, by decide +kernel⟩
abbrev s__law_heap : Stmt := top 20
theorem sc__law_heap : FnScope ["raw"] ["raw"] (defScope s__law_heap) := ⟨rfl, rfl, rfl, by decide +kernel, rfl, by decide +kernel, by decide +kernel⟩
abbrev s__law_told : Stmt := top 21
theorem sc__law_told : FnScope ["made"] ["made"] (defScope s__law_told) := ⟨rfl, rfl, rfl, by decide +kernel, rfl, by decide +kernel, by decide +kernel⟩
abbrev s__law_due : Stmt := top 22
theorem sc__law_due : FnScope ["raw"] ["raw"] (defScope s__law_due) := ⟨rfl, rfl, rfl, by decide +kernel, rfl, by decide +kernel, by decide +kernel⟩
abbrev s__law_others : Stmt := top 23
theorem sc__law_others : FnScope ["jar", "raw", "found", "spot", "part", "by_here", "changed", "bounds"] ["jar", "raw"] (defScope s__law_others) := ⟨rfl, rfl, rfl, by decide +kernel, rfl, by decide +kernel, by decide +kernel⟩
abbrev s__law_right : Stmt := top 24
theorem sc__law_right : FnScope ["jar", "raw", "handed", "made", "due", "bounds", "thing_here"] ["jar", "raw"] (defScope s__law_right) := ⟨rfl, rfl, rfl, by decide +kernel, rfl, by decide +kernel, by decide +kernel⟩
abbrev s_law : Stmt := top 25
theorem sc_law : FnScope ["script", "k", "jar", "turn", "made"] ["script"] (defScope s_law) := ⟨rfl, rfl, rfl, by decide +kernel, rfl, by decide +kernel, by decide +kernel⟩
def fn : List Df := [
  ⟨fun K => He.ga K "is_whole", "is_whole", "is_whole", s_is_whole⟩,
  ⟨fun K => He.ga K "is_whole_list", "is_whole_list", "is_whole_list", s_is_whole_list⟩,
  ⟨fun K => He.ga K "is_at_most", "is_at_most", "is_at_most", s_is_at_most⟩,
  ⟨fun K => He.ma K (He.ga K "Plan") "__init__", "__init__", "Plan.__init__", s_Plan___init__⟩,
  ⟨pgA "Plan" "times", "times", "Plan.times", s_Plan_times⟩,
  ⟨pgA "Plan" "low", "low", "Plan.low", s_Plan_low⟩,
  ⟨pgA "Plan" "high", "high", "Plan.high", s_Plan_high⟩,
  ⟨pgA "Plan" "least", "least", "Plan.least", s_Plan_least⟩,
  ⟨pgA "Plan" "most", "most", "Plan.most", s_Plan_most⟩,
  ⟨pgA "Plan" "total", "total", "Plan.total", s_Plan_total⟩,
  ⟨fun K => He.ma K (He.ga K "Plan") "__len__", "__len__", "Plan.__len__", s_Plan___len__⟩,
  ⟨fun K => He.ma K (He.ga K "Plan") "__eq__", "__eq__", "Plan.__eq__", s_Plan___eq__⟩,
  ⟨fun K => He.ga K "_law_jar", "_law_jar", "_law_jar", s__law_jar⟩,
  ⟨fun K => He.ga K "_law_dip", "_law_dip", "_law_dip", s__law_dip⟩,
  ⟨fun K => He.ga K "_law_around", "_law_around", "_law_around", s__law_around⟩,
  ⟨fun K => He.ga K "_law_small", "_law_small", "_law_small", s__law_small⟩,
  ⟨fun K => He.ga K "_law_great", "_law_great", "_law_great", s__law_great⟩,
  ⟨fun K => He.ga K "_law_heap", "_law_heap", "_law_heap", s__law_heap⟩,
  ⟨fun K => He.ga K "_law_told", "_law_told", "_law_told", s__law_told⟩,
  ⟨fun K => He.ga K "_law_due", "_law_due", "_law_due", s__law_due⟩,
  ⟨fun K => He.ga K "_law_others", "_law_others", "_law_others", s__law_others⟩,
  ⟨fun K => He.ga K "_law_right", "_law_right", "_law_right", s__law_right⟩,
  ⟨fun K => He.ga K "law", "law", "law", s_law⟩]
def fa : List Fb := [.b (.free "isinstance"),
  .b (.free "bool"),
  .b (.free "int"),
  .b (.glo "is_whole"),
  .b (.free "all"),
  .b (.free "len"),
  .b (.int "MOST_TIMES" 200),
  .b (.free "list"),
  .b (.glo "is_whole_list"),
  .b (.free "zip"),
  .b (.glo "is_at_most"),
  .b (.free "any"),
  .b (.cls "Plan"),
  .b (.mkr "Plan"),
  .prop "Plan" "times",
  .prop "Plan" "low",
  .prop "Plan" "high",
  .prop "Plan" "least",
  .prop "Plan" "most",
  .prop "Plan" "total",
  .b (.meth "Plan" "__len__"),
  .b (.glo "Plan"),
  .b (.meth "Plan" "__eq__"),
  .b (.free "max"),
  .b (.free "abs"),
  .b (.glo "_law_jar"),
  .b (.glo "_law_dip"),
  .b (.glo "_law_around"),
  .b (.free "min"),
  .b (.free "range"),
  .b (.glo "_law_small"),
  .b (.glo "_law_great"),
  .b (.glo "_law_heap"),
  .b (.free "repr"),
  .b (.glo "_law_told"),
  .b (.glo "_law_due"),
  .b (.glo "_law_others"),
  .findB "Plan" "__ne__" "object.__ne__",
  .isi "Plan",
  .b (.glo "_law_right"),
  .b (.glo "law"),
  .kit "Plan" "Plan" true,
  .b (.noat "Plan" "_low"),
  .b (.noat "Plan" "_high"),
  .b (.noat "Plan" "_least"),
  .b (.noat "Plan" "_most"),
  .tyc "Plan"]
set_option Elab.async false
set_option linter.all false
set_option maxRecDepth 100000
set_option maxHeartbeats 4000000
local macro_rules | `(tactic| walk_at "ev.mem") => `(tactic| focus (repeat (first | exact List.Mem.head _ | refine' List.Mem.tail _ ?_)))
local macro_rules | `(tactic| walk_at "ev.hg") => `(tactic| first | assumption | exact upd_same | (refine' Z.get ?z ?m; (case z => assumption); (case m => walk_at "ev.mem")) | (refine' ZJ.get ?z ?m; (case z => assumption); (case m => walk_at "ev.mem")) | (refine' Z.keep ?z ?h ?n; (case z => assumption); (case h => assumption); (case n => first | (simp; done) | (simp; first | assumption | (apply Ne.symm; assumption)))) | (refine' ZJ.keep ?z ?h ?n; (case z => assumption); (case h => assumption); (case n => first | assumption | (apply Ne.symm; assumption))))
local macro_rules | `(tactic| walk_at "ev.sq") => `(tactic| first | assumption | (apply SqL.of; walk_at "ev.hg"))
local macro_rules | `(tactic| walk_at "ev.st") => `(tactic| first | assumption | (apply SqT.of; walk_at "ev.hg"))
local macro_rules | `(tactic| walk_at "ev.sz") => `(tactic| first | exact Nat.le_of_ble_eq_true rfl | (apply small1000'; simp; done) | (apply small1000'; simp; omega) | (apply small1000'; simp only [List.length_map, List.length_append, List.length_range, List.length_reverse, List.length_cons, List.length_nil, List.length_set]; omega))
local macro_rules | `(tactic| walk_at "ev.szl") => `(tactic| first | exact Nat.le_of_ble_eq_true rfl | (apply smalllt'; simp; done) | (apply smalllt'; simp; omega) | (apply smalllt'; simp only [List.length_map, List.length_append, List.length_range, List.length_reverse, List.length_cons, List.length_nil, List.length_set]; omega))
local macro_rules | `(tactic| walk_at "ev.1") => `(tactic| with_reducible first
  | refine' r_seq ?_ | refine' r_asg ?_ | refine' r_op ?_ | (refine' r_var ?v ?_; (case v => k_dflt exact rfl)) | refine' r_c ?_ | refine' r_name ?_ | refine' r_I0 ?_
  | (refine' r_I ?c ?_; (case c => k_dflt exact pow10 (by decide)))
  | refine' r_cons ?_ | refine' r_nil ?_ | refine' r_call ?_ | refine' r_drop ?_ | refine' r_ret ?_ | refine' r_ifs ?_ | refine' r_test ?_ | refine' r_exif ?_ | refine' r_un ?_ | refine' r_U ?_
  | (refine' r_ixL ?s ?_; (case s => k_dflt walk_at "ev.sq")) | (refine' r_ixT ?s ?_; (case s => k_dflt walk_at "ev.st")) | (refine' r_at ?e ?_; (case e => k_dflt exact rfl)) | (refine' r_ixn ?e ?_; (case e => k_dflt exact rfl)) | (refine' r_ixST (r_ixT ?s ?_); (case s => k_dflt walk_at "ev.st")) | (refine' r_ixSL (r_ixL ?s ?_); (case s => k_dflt walk_at "ev.sq"))
  | refine' r_cb ?_ | refine' r_B ?_ | refine' r_and ?_ | refine' r_or ?_ | refine' r_not ?_ | refine' r_andV ?_ | refine' r_orV ?_ | refine' r_notV ?_ | refine' r_if ?_
  | refine' iteT ?_ | refine' iteF ?_ | refine' iteNT ?_ | refine' iteNF ?_ | refine' r_chain ?_
  | (refine' r_gtup ?s ?e ?_; (case s => k_dflt walk_at "ev.st"); (case e => k_dflt exact rfl)) | refine' r_gcons ?_ | refine' r_gnil ?_ | refine' r_gsub ?_
  | (refine' r_setL ?s ?_; (case s => k_dflt walk_at "ev.hg")) | refine' r_tup ?_ | refine' r_lst ?_
  | refine' r_bm ?_ | (refine' r_tyL ?s ?_; (case s => k_dflt walk_at "ev.hg")) | (refine' r_app ?s ?e ?_; (case s => k_dflt walk_at "ev.hg"); (case e => k_dflt walk_at "ev.szl"))
  | refine' r_sl ?_ | refine' r_part ?_ | refine' r_exint ?_ | refine' r_nopart ?_ | (refine' r_slL ?s ?_; (case s => k_dflt walk_at "ev.sq")) | refine' r_revL ?_ | (refine' r_exrev ?s ?_; (case s => k_dflt walk_at "ev.sq"))
  | (refine' r_eq ?e ?_; (case e => k_dflt exact rfl)) | (refine' r_ne ?e ?_; (case e => k_dflt exact rfl)) | refine' r_par ?_ | refine' r_expar ?_ | refine' r_par3 ?_ | refine' r_expar3 ?_ | refine' r_methK ?_ | refine' r_ienumS ?_ | (refine' r_sum ?s ?_; (case s => k_dflt walk_at "ev.sq")) | (refine' r_glst ?s ?e ?_; (case s => k_dflt walk_at "ev.sq"); (case e => k_dflt exact rfl))
  | (refine' r_cat ?a ?b ?e ?_; (case a => k_dflt walk_at "ev.hg"); (case b => k_dflt walk_at "ev.hg"); (case e => k_dflt walk_at "ev.sz"))
  | refine' r_for ?_ | refine' r_lc ?_ | refine' r_ilist ?_ | (refine' r_exil ?s ?_; (case s => k_dflt walk_at "ev.sq")) | refine' r_itup ?_ | (refine' r_exit ?s ?_; (case s => k_dflt walk_at "ev.st"))
  | refine' r_irng1 ?_ | refine' r_irng2 ?_ | refine' r_irng3 ?_ | refine' r_izip ?_ | refine' r_ienum ?_
  | (refine' r_exz ?a ?b ?_; (case a => k_dflt walk_at "ev.sq"); (case b => k_dflt walk_at "ev.sq")) | (refine' r_exen ?a ?_; (case a => k_dflt walk_at "ev.sq"))
  | refine' r_yes ?_ | (refine' r_len ?s ?_; (case s => k_dflt walk_at "ev.sq")) | (refine' r_lenT ?s ?_; (case s => k_dflt walk_at "ev.st")) | refine' r_int1 ?_ | refine' r_int2 ?_ | refine' r_int3 ?_
  | (refine' r_mk ?e ?_; (case e => k_dflt exact Nat.le_of_ble_eq_true rfl))
  | refine' r_make ?_ | refine' r_meth ?_ | refine' r_prop ?_ | refine' r_fld ?_ | refine' r_sfld ?_ | refine' r_next ?_)
local macro_rules | `(tactic| walk_at "ev") => `(tactic| repeat walk_at "ev.1")
local macro_rules | `(tactic| walk_at "ev0") => `(tactic| (dsimp only [cxOf, Cx.nox]; walk_at "ev"))

section
variable {P : Program} {w : World} {K : PySem.W.Frag} {mg : Str → Option Value} {base : Heap}
/-! ## is_whole -/
def sp_is_whole (K : PySem.W.Frag) : Sp := fun vs H Q _ => ∃ v t b1 b2, vs = [v] ∧ TyX K H v t ∧ PySem.W.kitOne K t (.type "int") = some b1 ∧ PySem.W.kitOne K t (.type "bool") = some b2 ∧ Q (.bl (b1 && !b2)) H
theorem k_is_whole (T : Tx fa fn K mg base) : Fk P w K mg base "is_whole" ["thing"] 1 (sp_is_whole K) s_is_whole "is_whole" := by
  refine T.fk 0 3 (q := "is_whole") (st := s_is_whole) sc_is_whole (fun _ _ _ _ _ _ us hl => match us, hl with | [_], _ => rfl) (fun vs H Q E h => ?_) (fun cdv A outer s H vs Q E hr h => ?_)
  · obtain ⟨v, t, b1, b2, rfl, _⟩ := h
    rfl
  · obtain ⟨v, t, b1, b2, rfl, ty, h1, h2, k⟩ := h
    refine ⟨_, (pss_one (ps_ret (pe_and (pe_callB call_isi (by rfl) (T.fr 0) (by decide +kernel) (pa_cons (pv 0) (pa_cons (pe_bltn (v := .ty "int") (u := .type "int") (by rfl) (T.fr 2) (by decide +kernel) rfl) pa_nil))) (pe_one (pe_not (pe_callB call_isi (by rfl) (T.fr 0) (by decide +kernel) (pa_cons (pv 0) (pa_cons (pe_bltn (v := .ty "bool") (u := .type "bool") (by rfl) (T.fr 1) (by decide +kernel) rfl) pa_nil)))))))), ?_⟩
    walk_at "ev0"
    refine r_isi (.ty _) ty h1 ?_
    walk_at "ev"
    cases b1 with
    | false => exact iteF k
    | true =>
      refine iteT ?_
      walk_at "ev"
      refine r_isi (.ty _) ty h2 ?_
      walk_at "ev"
      exact k
theorem whole_int {K : PySem.W.Frag} {H : Hp} {Q : VK} {i : Int} (k : Q (.bl true) H) : sp_is_whole K ([V.int i] ++ []) H Q E0 :=
  ⟨_, _, true, false, rfl, .base (.int i), kit_ty (by decide +kernel), kit_ty (by decide +kernel), k⟩
/-! ## is_whole_list, of a list of integers -/
def sp_is_whole_list (K : PySem.W.Frag) : Sp := fun vs H Q _ => ∃ (a : Addr) (ns : List Int), vs = [.ref a] ∧ H a = some (.lst (ns.map V.int)) ∧ (1 ≤ ns.length ∧ ns.length ≤ 200) ∧ ∀ H', Fr [] H H' → Q (.bl true) H'
theorem k_is_whole_list (T : Tx fa fn K mg base) : Fk P w K mg base "is_whole_list" ["thing"] 2 (sp_is_whole_list K) s_is_whole_list "is_whole_list" := by
  refine T.fk 1 8 (q := "is_whole_list") (st := s_is_whole_list) sc_is_whole_list (fun _ _ _ _ _ _ us hl => match us, hl with | [_], _ => rfl) (fun vs H Q E h => ?_) (fun cdv A outer s H vs Q E hr h => ?_)
  · obtain ⟨a, ns, rfl, _⟩ := h
    rfl
  · obtain ⟨a, ns, rfl, ha, hn, k⟩ := h
    have hl : (ns.map V.int).length = ns.length := List.length_map _
    refine ⟨_, (pss_cons (ps_if (PW.pt (pw_or (pt_not (pt_val (pe_callB call_isi (by rfl) (T.fr 0) (by decide +kernel) (pa_cons (pv 0) (pa_cons (pe_bltn (v := .ty "list") (u := .type "list") (by rfl) (T.fr 7) (by decide +kernel) rfl) pa_nil))))) (pw_or1 (pt_not (pt_chain op_le op_le pe_int (pe_callB call_len_seq (by rfl) (T.fr 5) (by decide +kernel) (pa_cons (pv 0) pa_nil)) (pe_globI (T.int 6))))))) (pss_one (ps_ret pe_bl)) pss_nil)
      (pss_one (ps_ret (pe_callB (cr_all rfl) (by rfl) (T.fr 4) (by decide +kernel) (pa_cons (pe_lc (own := [("entry", 1)]) (tt := tYes) (te := (tCall (sp_is_whole K) [] E0 (tCons (tVar 1) tNil))) rfl sc_is_whole_list.nd (pi_list (pv 0)) (blkOk_by (N := ["thing", "entry"]) (sc := defScope s_is_whole_list) (by decide +kernel)) (fun _ _ _ _ _ => (pg_name (i := 1) sc_is_whole_list.nd rfl (by first | exact Or.inl rfl | exact Or.inr rfl))) (fun _ _ _ _ _ => pts_nil) (fun _ _ _ _ _ => (pe_f (k_is_whole T) hr (pa_cons (pv 1) pa_nil)))) pa_nil))))), ?_⟩
    walk_at "ev0"
    refine r_isi (.ty _) (.base (.lst ha)) (kit_ty (b := "list") (r := true) (by decide +kernel)) ?_
    walk_at "ev"
    refine r_iteY (by omega) ?_
    walk_at "ev"
    refine r_iteNY (by omega) ?_
    walk_at "ev"
    refine lc_pure (walk_list (xs := ns.map V.int)) (fun _ => .bl true) (by omega) (fun H' e => e.sql (SqL.of ha) (fun z => nomatch z)) (fun i H' x H'' y => by rw [y.1]; exact Fr.refl _) (fun i x H' H'' R hi e y kR => ?_) (fun D H' hD e hD' => ?_)
    · obtain ⟨rfl, hx⟩ := y
      rw [nth_at hx]
      walk_at "ev"
      refine ⟨rfl, ?_⟩
      walk_at "ev"
      exact whole_int (kR _ (Fr.refl _))
    · walk_at "ev"
      refine r_all (bs := (List.range (ns.map V.int).length).map fun _ => true) (SqL.of (by rw [List.map_map]; exact hD')) ?_
      have e2 : ((List.range (ns.map V.int).length).map fun _ => true).all id = true := by simp
      rw [e2]
      exact k H' e
/-! ## is_at_most -/
def sp_is_at_most (K : PySem.W.Frag) : Sp := fun vs H Q _ => ∃ (a b : Addr) (ns ms : List Int), vs = [.ref a, .ref b] ∧ H a = some (.lst (ns.map V.int)) ∧ H b = some (.lst (ms.map V.int)) ∧ ns.length ≤ 10000 ∧ ∀ H', Fr [] H H' → Q (.bl (leAll ns ms)) H'
theorem k_is_at_most (T : Tx fa fn K mg base) : Fk P w K mg base "is_at_most" ["row", "other"] 1 (sp_is_at_most K) s_is_at_most "is_at_most" := by
  refine T.fk 2 10 (q := "is_at_most") (st := s_is_at_most) sc_is_at_most (fun _ _ _ _ _ _ us hl => match us, hl with | [_, _], _ => rfl) (fun vs H Q E h => ?_) (fun cdv A outer s H vs Q E hr h => ?_)
  · obtain ⟨a, b, ns, ms, rfl, _⟩ := h
    rfl
  · obtain ⟨a, b, ns, ms, rfl, ha, hb, hn, k⟩ := h
    refine ⟨_, (pss_one (ps_ret (pe_callB (cr_all rfl) (by rfl) (T.fr 4) (by decide +kernel) (pa_cons (pe_lc (own := [("one", 2), ("two", 3)]) (tt := tYes) (g := (gTup K 2 (gCons (gName 2) (gCons (gName 3) gNil)))) (te := (tOp (rI0 fun i j => .bl (decide (i ≤ j))) (tVar 2) (tVar 3))) rfl sc_is_at_most.nd (pi_zip (by rfl) (T.fr 9) (pa_cons (pv 0) (pa_cons (pv 1) pa_nil))) (blkOk_by (N := ["row", "other", "one", "two"]) (sc := defScope s_is_at_most) (by decide +kernel)) (fun _ _ _ _ _ => (pg_tup rfl (pgs_cons (pg_name (i := 2) sc_is_at_most.nd rfl (by first | exact Or.inl rfl | exact Or.inr rfl)) (pgs_cons (pg_name (i := 3) sc_is_at_most.nd rfl (by first | exact Or.inl rfl | exact Or.inr rfl)) pgs_nil)))) (fun _ _ _ _ _ => pts_nil) (fun _ _ _ _ _ => (pe_cmpR op_le (pv 2) (pv 3) (nomark _)))) pa_nil)))), ?_⟩
    walk_at "ev0"
    refine lc_pure (walk_zip (xs := ns.map V.int) (ys := ms.map V.int) (n := min ns.length ms.length) (by simp)) (fun i => .bl (decide (nth ns i ≤ nth ms i))) (by omega) (fun H' e => ⟨e.sql (SqL.of ha) (fun z => nomatch z), e.sql (SqL.of hb) (fun z => nomatch z)⟩)
      (fun i H' x H'' y => by obtain ⟨T, x1, x2, _, h0, rfl, _⟩ := y; exact (Fr.refl _).new h0) (fun i x H' H'' R hi e y kR => ?_) (fun D H' hD e hD' => ?_)
    · obtain ⟨T, x1, x2, rfl, h0, rfl, g1, g2⟩ := y
      obtain rfl := nth_at g1
      obtain rfl := nth_at g2
      have hT : SqT K (upd H' T (.tup [V.int (nth ns i), V.int (nth ms i)])) T [V.int (nth ns i), V.int (nth ms i)] := SqT.of upd_same
      walk_at "ev"
      refine ⟨rfl, ?_⟩
      walk_at "ev"
      exact kR _ (Fr.refl _)
    · walk_at "ev"
      refine r_all (bs := (List.range (min ns.length ms.length)).map fun i => decide (nth ns i ≤ nth ms i)) (SqL.of (by rw [List.map_map]; exact hD')) ?_
      have e2 : ((List.range (min ns.length ms.length)).map fun i => decide (nth ns i ≤ nth ms i)).all id = leAll ns ms := by
        rw [List.all_map]
        rfl
      rw [e2]
      exact k H' e
end
/-! ## plans: what stands where -/
structure PD where
  L : List Int
  U : List Int
  A : List Int
  B : List Int
deriving DecidableEq
structure PD.Ok (d : PD) : Prop where
  one : 1 ≤ d.L.length
  most : d.L.length ≤ 200
  lU : d.U.length = d.L.length
  lA : d.A.length = d.L.length
  lB : d.B.length = d.L.length
  lu : ∀ i, i < d.L.length → nth d.L i ≤ nth d.U i
  ab : ∀ i, i < d.L.length → nth d.A i ≤ nth d.B i
  tot : nth d.L (d.L.length - 1) = nth d.U (d.L.length - 1)
def flds (l1 l2 l3 l4 : Addr) : List (Str × V) := putF "_most" (.ref l4) (putF "_least" (.ref l3) (putF "_high" (.ref l2) (putF "_low" (.ref l1) [])))
theorem flds_low (l1 l2 l3 l4 : Addr) : (flds l1 l2 l3 l4).lookup ("_low" : Str) = some (.ref l1) := by
  unfold flds
  rw [lookup_putF, if_neg (by decide +kernel), lookup_putF, if_neg (by decide +kernel), lookup_putF, if_neg (by decide +kernel), lookup_putF, if_pos rfl]
theorem flds_high (l1 l2 l3 l4 : Addr) : (flds l1 l2 l3 l4).lookup ("_high" : Str) = some (.ref l2) := by
  unfold flds
  rw [lookup_putF, if_neg (by decide +kernel), lookup_putF, if_neg (by decide +kernel), lookup_putF, if_pos rfl]
theorem flds_least (l1 l2 l3 l4 : Addr) : (flds l1 l2 l3 l4).lookup ("_least" : Str) = some (.ref l3) := by
  unfold flds
  rw [lookup_putF, if_neg (by decide +kernel), lookup_putF, if_pos rfl]
theorem flds_most (l1 l2 l3 l4 : Addr) : (flds l1 l2 l3 l4).lookup ("_most" : Str) = some (.ref l4) := by
  unfold flds
  rw [lookup_putF, if_pos rfl]
theorem flds_no (l1 l2 l3 l4 : Addr) {m : Str} (h1 : ¬ m = "_low") (h2 : ¬ m = "_high") (h3 : ¬ m = "_least") (h4 : ¬ m = "_most") : (flds l1 l2 l3 l4).lookup m = none := by
  unfold flds
  rw [lookup_putF, if_neg h4, lookup_putF, if_neg h3, lookup_putF, if_neg h2, lookup_putF, if_neg h1]
  rfl
/-- a plan with these lists stands at p, apart from what J names -/
structure PlanAt (K : PySem.W.Frag) (J : List Addr) (H : Hp) (p : Addr) (d : PD) : Prop where
  ex : ∃ dx l1 l2 l3 l4, H p = some (.ins (He.ga K "Plan") dx (flds l1 l2 l3 l4)) ∧ (H l1 = some (.lst (d.L.map V.int)) ∧ H l2 = some (.lst (d.U.map V.int)) ∧ H l3 = some (.lst (d.A.map V.int)) ∧ H l4 = some (.lst (d.B.map V.int))) ∧
    (p ∉ J ∧ l1 ∉ J ∧ l2 ∉ J ∧ l3 ∉ J ∧ l4 ∉ J)
theorem PlanAt.mono {K : PySem.W.Frag} {J : List Addr} {H H' : Hp} {p : Addr} {d : PD} (h : PlanAt K J H p d) (f : Fr J H H') : PlanAt K J H' p d := by
  obtain ⟨dx, l1, l2, l3, l4, h0, ⟨h1, h2, h3, h4⟩, n0, n1, n2, n3, n4⟩ := h.ex
  exact ⟨dx, l1, l2, l3, l4, f _ _ n0 h0, ⟨f _ _ n1 h1, f _ _ n2 h2, f _ _ n3 h3, f _ _ n4 h4⟩, n0, n1, n2, n3, n4⟩
theorem PlanAt.nil {K : PySem.W.Frag} {J : List Addr} {H : Hp} {p : Addr} {d : PD} (h : PlanAt K J H p d) : PlanAt K [] H p d := by
  obtain ⟨dx, l1, l2, l3, l4, h0, h1, _⟩ := h.ex
  exact ⟨dx, l1, l2, l3, l4, h0, h1, (fun z => nomatch z), (fun z => nomatch z), (fun z => nomatch z), (fun z => nomatch z), fun z => nomatch z⟩
/-- a new plan -/
def NewP (K : PySem.W.Frag) (H H' : Hp) (p : Addr) (d : PD) : Prop := H p = none ∧ ∀ J, (∀ j ∈ J, ∃ o, H j = some o) → PlanAt K J H' p d
theorem NewP.at {K : PySem.W.Frag} {H H' : Hp} {p : Addr} {d : PD} (h : NewP K H H' p d) : PlanAt K [] H' p d := h.2 [] fun _ z => nomatch z
theorem NewP.at1 {K : PySem.W.Frag} {H H' : Hp} {p j : Addr} {o : HO} {d : PD} (h : NewP K H H' p d) (hj : H j = some o) : PlanAt K [j] H' p d := h.2 [j] fun x m => by
  rcases List.mem_cons.mp m with e | m
  · rw [e]
    exact ⟨o, hj⟩
  · cases m
theorem NewP.fwd {K : PySem.W.Frag} {H H1 H2 : Hp} {p : Addr} {d : PD} (h : NewP K H1 H2 p d) (f : Fr [] H H1) : NewP K H H2 p d := by
  refine ⟨?_, fun J hJ => h.2 J fun j hj => ?_⟩
  · cases e : H p with
    | none => rfl
    | some o =>
      have := f p o (fun z => nomatch z) e
      rw [h.1] at this
      cases this
  · obtain ⟨o, e⟩ := hJ j hj
    exact ⟨o, f j o (fun z => nomatch z) e⟩
section
variable {P : Program} {w : World} {K : PySem.W.Frag} {mg : Str → Option Value} {base : Heap}
def sp_Plan___init__ (K : PySem.W.Frag) : Sp := fun vs H Q _ => ∃ (x dx a1 a2 a3 a4 : Addr) (d : PD), vs = [.ref x, .ref a1, .ref a2, .ref a3, .ref a4] ∧ H x = some (.ins (He.ga K "Plan") dx []) ∧
  (H a1 = some (.lst (d.L.map V.int)) ∧ H a2 = some (.lst (d.U.map V.int)) ∧ H a3 = some (.lst (d.A.map V.int)) ∧ H a4 = some (.lst (d.B.map V.int))) ∧ d.Ok ∧
  ∀ H' l1 l2 l3 l4, Fr [x] H H' → (H' x = some (.ins (He.ga K "Plan") dx (flds l1 l2 l3 l4))) → (H' l1 = some (.lst (d.L.map V.int)) ∧ H' l2 = some (.lst (d.U.map V.int)) ∧ H' l3 = some (.lst (d.A.map V.int)) ∧ H' l4 = some (.lst (d.B.map V.int))) →
    (H l1 = none ∧ H l2 = none ∧ H l3 = none ∧ H l4 = none) → Q .non H'
theorem k_Plan___init__ (T : Tx fa fn K mg base) : Ini P w K mg base (He.ga K "Plan") ["self", "low", "high", "least", "most"] 3 (sp_Plan___init__ K) s_Plan___init__ "Plan.__init__" := by
  refine T.ini 3 13 (q := "Plan.__init__") (st := s_Plan___init__) sc_Plan___init__ (fun _ _ _ _ _ _ us hl => match us, hl with | [_, _, _, _, _], _ => rfl) (fun vs H Q E h => ?_) (fun cdv A outer s H vs Q E hr h => ?_)
  · obtain ⟨x, dx, a1, a2, a3, a4, d, rfl, _⟩ := h
    rfl
  · obtain ⟨x, dx, a1, a2, a3, a4, d, rfl, hx, ⟨h1, h2, h3, h4⟩, ok, k⟩ := h
    have m1 : (d.L.map V.int).length = d.L.length := List.length_map _
    have m2 : (d.U.map V.int).length = d.L.length := (List.length_map _).trans ok.lU
    have m3 : (d.A.map V.int).length = d.L.length := (List.length_map _).trans ok.lA
    have m4 : (d.B.map V.int).length = d.L.length := (List.length_map _).trans ok.lB
    refine ⟨_, (pss_cons (ps_set (i := 5) sc_Plan___init__.nd rfl (by first | exact Or.inl rfl | exact Or.inr rfl) (pe_tup (pa_cons (pv 1) (pa_cons (pv 2) (pa_cons (pv 3) (pa_cons (pv 4) pa_nil))))))
      (pss_cons (ps_if (pt_not (pt_val (pe_callB (cr_all rfl) (by rfl) (T.fr 4) (by decide +kernel) (pa_cons (pe_lc (own := [("numbers", 6)]) (tt := tYes) (te := (tCall (sp_is_whole_list K) [] E0 (tCons (tVar 6) tNil))) rfl sc_Plan___init__.nd (pi_tup (pv 5)) (blkOk_by (N := ["self", "low", "high", "least", "most", "bounds", "numbers"]) (sc := defScope s_Plan___init__) (by decide +kernel)) (fun _ _ _ _ _ => (pg_name (i := 6) sc_Plan___init__.nd rfl (by first | exact Or.inl rfl | exact Or.inr rfl))) (fun _ _ _ _ _ => pts_nil) (fun _ _ _ _ _ => (pe_f (k_is_whole_list T) hr (pa_cons (pv 6) pa_nil)))) pa_nil)))) (pss_one ps_never) pss_nil)
      (pss_cons (ps_if (pt_val (pe_callB (cr_any rfl) (by rfl) (T.fr 11) (by decide +kernel) (pa_cons (pe_lc (own := [("numbers", 6)]) (tt := tYes) (te := (tOp rNe (tCB (rLenX K) (tCons (tVar 6) tNil)) (tCB (rLenX K) (tCons (tVar 1) tNil)))) rfl sc_Plan___init__.nd (pi_tup (pv 5)) (blkOk_by (N := ["self", "low", "high", "least", "most", "bounds", "numbers"]) (sc := defScope s_Plan___init__) (by decide +kernel)) (fun _ _ _ _ _ => (pg_name (i := 6) sc_Plan___init__.nd rfl (by first | exact Or.inl rfl | exact Or.inr rfl))) (fun _ _ _ _ _ => pts_nil) (fun _ _ _ _ _ => (pe_cmpR op_ne (pe_callB call_len_seq (by rfl) (T.fr 5) (by decide +kernel) (pa_cons (pv 6) pa_nil)) (pe_callB call_len_seq (by rfl) (T.fr 5) (by decide +kernel) (pa_cons (pv 1) pa_nil)) (nomark _)))) pa_nil))) (pss_one ps_never) pss_nil)
      (pss_cons (ps_if (PW.pt (pw_or (pt_not (pt_val (pe_f (k_is_at_most T) hr (pa_cons (pv 1) (pa_cons (pv 2) pa_nil))))) (pw_or1 (pt_not (pt_val (pe_f (k_is_at_most T) hr (pa_cons (pv 3) (pa_cons (pv 4) pa_nil)))))))) (pss_one ps_never) pss_nil)
      (pss_cons (ps_if (pt_cmpR op_ne (pe_ix ix_list (pv 1) (pe_un un_neg pe_int) (fun _ _ => rfl)) (pe_ix ix_list (pv 2) (pe_un un_neg pe_int) (fun _ _ => rfl)) (nomark _)) (pss_one ps_never) pss_nil)
      (pss_cons (ps_fld (pv 0) (pe_callTy call_list_of (by rfl) (T.fr 7) (by decide +kernel) (pa_cons (pv 1) pa_nil)) rfl)
      (pss_cons (ps_fld (pv 0) (pe_callTy call_list_of (by rfl) (T.fr 7) (by decide +kernel) (pa_cons (pv 2) pa_nil)) rfl)
      (pss_cons (ps_fld (pv 0) (pe_callTy call_list_of (by rfl) (T.fr 7) (by decide +kernel) (pa_cons (pv 3) pa_nil)) rfl)
      (pss_one (ps_fld (pv 0) (pe_callTy call_list_of (by rfl) (T.fr 7) (by decide +kernel) (pa_cons (pv 4) pa_nil)) rfl)))))))))), ?_⟩
    have n1 := ne_of h1 hx (by intro z; cases z)
    have n2 := ne_of h2 hx (by intro z; cases z)
    have n3 := ne_of h3 hx (by intro z; cases z)
    have n4 := ne_of h4 hx (by intro z; cases z)
    have four : ∀ (i : Nat) (x : V), [V.ref a1, V.ref a2, V.ref a3, V.ref a4][i]? = some x → ∃ (a : Addr) (ns : List Int), x = .ref a ∧ H a = some (.lst (ns.map V.int)) ∧ ns.length = d.L.length := by
      intro i x h
      match i, h with
      | 0, h => exact ⟨a1, d.L, (Option.some.inj h).symm, h1, rfl⟩
      | 1, h => exact ⟨a2, d.U, (Option.some.inj h).symm, h2, ok.lU⟩
      | 2, h => exact ⟨a3, d.A, (Option.some.inj h).symm, h3, ok.lA⟩
      | 3, h => exact ⟨a4, d.B, (Option.some.inj h).symm, h4, ok.lB⟩
    have one := ok.one
    have most := ok.most
    have lU := ok.lU
    have lA := ok.lA
    have lB := ok.lB
    walk_at "ev0"
    intro b hb
    have f1 : Fr [] H (upd H b (.tup [.ref a1, .ref a2, .ref a3, .ref a4])) := (Fr.refl H).new hb
    have t1 : (upd H b (.tup [.ref a1, .ref a2, .ref a3, .ref a4])) b = some (.tup [.ref a1, .ref a2, .ref a3, .ref a4]) := upd_same
    generalize upd H b (.tup [.ref a1, .ref a2, .ref a3, .ref a4]) = Ha at f1 t1 ⊢
    walk_at "ev"
    -- all four are lists of integers
    refine lc_pure (walk_tup (xs := [.ref a1, .ref a2, .ref a3, .ref a4])) (fun _ => .bl true) (by simp) (fun H' e => SqT.of (e _ _ (fun z => nomatch z) t1)) (fun i H' x H'' y => by rw [y.1]; exact Fr.refl _) (fun i x H' H'' R hi e y kR => ?_) (fun D H' hD e hD' => ?_)
    · obtain ⟨rfl, hx⟩ := y
      obtain ⟨a, ns, rfl, ha, hn⟩ := four i x hx
      walk_at "ev"
      refine ⟨rfl, ?_⟩
      walk_at "ev"
      exact ⟨a, ns, rfl, (f1.trans e) _ _ (fun z => nomatch z) ha, by omega, fun H4 e4 => kR H4 e4⟩
    walk_at "ev"
    refine r_allB (bs := [true, true, true, true]) (b := true) (SqL.of hD') rfl ?_
    walk_at "ev"
    have f2 : Fr [] H H' := f1.trans e
    have t2 := e _ _ (fun z => nomatch z) t1
    clear e hD' hD D f1 t1
    clear hb
    walk_at "ev"
    -- all are equally long
    refine lc_pure (walk_tup (xs := [.ref a1, .ref a2, .ref a3, .ref a4])) (fun _ => .bl false) (by simp) (fun H' e => SqT.of (e _ _ (fun z => nomatch z) t2)) (fun i H' x H'' y => by rw [y.1]; exact Fr.refl _) (fun i x H' H'' R hi e y kR => ?_) (fun D H2 hD e hD' => ?_)
    · obtain ⟨rfl, hx⟩ := y
      obtain ⟨a, ns, rfl, ha, hn⟩ := four i x hx
      walk_at "ev"
      refine ⟨rfl, ?_⟩
      have g1 := (f2.trans e) _ _ (fun z => nomatch z) h1
      have g2 := (f2.trans e) _ _ (fun z => nomatch z) ha
      walk_at "ev"
      have q : (!decide (V.int ((ns.map V.int).length : Int) = V.int ((d.L.map V.int).length : Int))) = false := by
        rw [List.length_map, List.length_map, hn, decide_eq_true rfl]
        rfl
      rw [q]
      exact kR _ (Fr.refl _)
    walk_at "ev"
    refine r_anyB (bs := [false, false, false, false]) (b := false) (SqL.of hD') rfl ?_
    walk_at "ev"
    have f3 : Fr [] H H2 := f2.trans e
    clear e hD' hD D f2 t2
    walk_at "ev"
    -- no bound is above
    refine ⟨a1, a2, d.L, d.U, rfl, f3 _ _ (fun z => nomatch z) h1, f3 _ _ (fun z => nomatch z) h2, by omega, fun H3 e3 => ?_⟩
    rw [leAll_of ok.lu]
    have f4 : Fr [] H H3 := f3.trans e3
    walk_at "ev"
    refine ⟨a3, a4, d.A, d.B, rfl, f4 _ _ (fun z => nomatch z) h3, f4 _ _ (fun z => nomatch z) h4, by omega, fun H4 e4 => ?_⟩
    rw [leAll_of (fun i hi => ok.ab i (by have := ok.lA; omega))]
    have f5 : Fr [] H H4 := f4.trans e4
    have g1 := f5 _ _ (fun z => nomatch z) h1
    have g2 := f5 _ _ (fun z => nomatch z) h2
    walk_at "ev"
    refine r_at (atI_end (ns := d.L) (by omega)) ?_
    walk_at "ev"
    refine r_at (atI_end (ns := d.U) (by omega)) ?_
    walk_at "ev"
    have q : V.int (nth d.L (d.L.length - 1)) = V.int (nth d.U (d.U.length - 1)) := by rw [ok.lU, ok.tot]
    refine r_iteNY q ?_
    walk_at "ev"
    have z0 : Z H H4 [(1, x, .ins (He.ga K "Plan") dx [])] := ((Z.start0 H).old 1 (by decide) hx fun _ z => nomatch z).same f5
    have on1 : ∀ {Hc : Hp} {E : List En}, Z H Hc E → (∀ q ∈ E, q.1 = 1 → q.2.1 = x) → Fr [x] H Hc := fun z h => z.fr1 h
    have away : ∀ {a : Addr}, a ≠ x → a ∉ [x] := fun h m => by
      rcases List.mem_cons.mp m with e | m
      · exact h e
      · cases m
    -- self._low = list(low)
    intro l1 k1
    have z1 := z0.alloc (.lst (d.L.map V.int)) k1
    walk_at "ev"
    refine r_exsfld (z1.get (.tail _ (.head _))) (T.cls 12) (T.noat 42) (by show 0 < 1000; decide) ?_
    have z2 := z1.set 1 (.ins (He.ga K "Plan") dx (putF "_low" (.ref l1) [])) rfl (.inl rfl)
    have g2 := on1 z2 (by simp) _ _ (away n2) h2
    walk_at "ev"
    -- self._high = list(high)
    intro l2 k2
    have z3 := z2.alloc (.lst (d.U.map V.int)) k2
    walk_at "ev"
    refine r_exsfld (z3.get (.tail _ (.tail _ (.head _)))) (T.cls 12) (T.noat 43) (by show 1 < 1000; decide) ?_
    have z4 := z3.set 2 (.ins (He.ga K "Plan") dx (putF "_high" (.ref l2) (putF "_low" (.ref l1) []))) rfl (.inl rfl)
    have g3 := on1 z4 (by simp) _ _ (away n3) h3
    walk_at "ev"
    -- self._least = list(least)
    intro l3 k3
    have z5 := z4.alloc (.lst (d.A.map V.int)) k3
    walk_at "ev"
    refine r_exsfld (z5.get (.tail _ (.tail _ (.tail _ (.head _))))) (T.cls 12) (T.noat 44) (by show 2 < 1000; decide) ?_
    have z6 := z5.set 3 (.ins (He.ga K "Plan") dx (putF "_least" (.ref l3) (putF "_high" (.ref l2) (putF "_low" (.ref l1) [])))) rfl (.inl rfl)
    have g4 := on1 z6 (by simp) _ _ (away n4) h4
    walk_at "ev"
    -- self._most = list(most)
    intro l4 k4
    have z7 := z6.alloc (.lst (d.B.map V.int)) k4
    walk_at "ev"
    refine r_exsfld (z7.get (.tail _ (.tail _ (.tail _ (.tail _ (.head _)))))) (T.cls 12) (T.noat 45) (by show 3 < 1000; decide) ?_
    have z8 := z7.set 4 (.ins (He.ga K "Plan") dx (flds l1 l2 l3 l4)) rfl (.inl rfl)
    exact k _ l1 l2 l3 l4 (on1 z8 (by simp)) (z8.get (.tail _ (.tail _ (.tail _ (.tail _ (.head _)))))) ⟨z8.get (.tail _ (.tail _ (.tail _ (.head _)))), z8.get (.tail _ (.tail _ (.head _))), z8.get (.tail _ (.head _)), z8.get (.head _)⟩
      ⟨z8.fresh (2, l1, _) (.tail _ (.tail _ (.tail _ (.head _)))) rfl, z8.fresh (2, l2, _) (.tail _ (.tail _ (.head _))) rfl, z8.fresh (2, l3, _) (.tail _ (.head _)) rfl, z8.fresh (2, l4, _) (.head _) rfl⟩
end
set_option Elab.async false
set_option linter.all false
set_option maxRecDepth 100000
set_option maxHeartbeats 4000000

/-! ## lists of integers compared -/
theorem dpAll_ints {K : PySem.W.Frag} {H : Hp} : ∀ ns : List Int, DpAll K H (ns.map V.int) (ns.map PyData.int)
  | [] => .nil
  | n :: r => .cons (.int n) (dpAll_ints r)
theorem canLay_ints : ∀ ns : List Int, PyData.canLayAll0 (ns.map PyData.int) = true
  | [] => rfl
  | n :: r => by
    rw [List.map_cons, PyData.canLayAll0, canLay_ints r]
    rfl
theorem depth_ints : ∀ ns : List Int, PyData.depthAll (ns.map PyData.int) = 0
  | [] => rfl
  | n :: r => by
    rw [List.map_cons, PyData.depthAll, depth_ints r]
    rfl
theorem shaped_ints (ns : List Int) : SeqAt.shaped (.list (ns.map PyData.int)) = true := by
  unfold SeqAt.shaped
  rw [PyData.canLay0, canLay_ints, PyData.depth, depth_ints]
  rfl
theorem r_eqI {K : PySem.W.Frag} {H : Hp} {Q : VK} {a b : Addr} {ns ms : List Int} (ha : SqL K H a (ns.map V.int)) (hb : SqL K H b (ms.map V.int)) (q : Q (.bl (decide (ns = ms))) H) : rEqD K (.ref a) (.ref b) H Q := by
  refine ⟨.list (ns.map PyData.int), .list (ms.map PyData.int), .lst ha (dpAll_ints ns), .lst hb (dpAll_ints ms), shaped_ints ns, shaped_ints ms, ?_⟩
  rw [PyData.eqv, PySem.W.ked_eqvAll]
  exact q
/-! ## plans read -/
section
variable {P : Program} {w : World} {K : PySem.W.Frag} {mg : Str → Option Value} {base : Heap}
abbrev CP (K : PySem.W.Frag) : Addr := He.ga K "Plan"
theorem r_low (T : Tx fa fn K mg base) {H : Hp} {p dx l1 l2 l3 l4 : Addr} {R : V → Prop} (h : H p = some (.ins (CP K) dx (flds l1 l2 l3 l4))) (q : R (.ref l1)) :
    ∃ b C dx fs v, V.ref p = .ref b ∧ H b = some (.ins C dx fs) ∧ Cls K C ∧ NoAttr K C "_low" ∧ fs.lookup ("_low" : Str) = some v ∧ R v := r_exfld h (T.cls 12) (T.noat 42) (flds_low _ _ _ _) q
theorem r_high (T : Tx fa fn K mg base) {H : Hp} {p dx l1 l2 l3 l4 : Addr} {R : V → Prop} (h : H p = some (.ins (CP K) dx (flds l1 l2 l3 l4))) (q : R (.ref l2)) :
    ∃ b C dx fs v, V.ref p = .ref b ∧ H b = some (.ins C dx fs) ∧ Cls K C ∧ NoAttr K C "_high" ∧ fs.lookup ("_high" : Str) = some v ∧ R v := r_exfld h (T.cls 12) (T.noat 43) (flds_high _ _ _ _) q
theorem r_least (T : Tx fa fn K mg base) {H : Hp} {p dx l1 l2 l3 l4 : Addr} {R : V → Prop} (h : H p = some (.ins (CP K) dx (flds l1 l2 l3 l4))) (q : R (.ref l3)) :
    ∃ b C dx fs v, V.ref p = .ref b ∧ H b = some (.ins C dx fs) ∧ Cls K C ∧ NoAttr K C "_least" ∧ fs.lookup ("_least" : Str) = some v ∧ R v := r_exfld h (T.cls 12) (T.noat 44) (flds_least _ _ _ _) q
theorem r_most (T : Tx fa fn K mg base) {H : Hp} {p dx l1 l2 l3 l4 : Addr} {R : V → Prop} (h : H p = some (.ins (CP K) dx (flds l1 l2 l3 l4))) (q : R (.ref l4)) :
    ∃ b C dx fs v, V.ref p = .ref b ∧ H b = some (.ins C dx fs) ∧ Cls K C ∧ NoAttr K C "_most" ∧ fs.lookup ("_most" : Str) = some v ∧ R v := r_exfld h (T.cls 12) (T.noat 45) (flds_most _ _ _ _) q
/-! ## properties -/
def sp_list (K : PySem.W.Frag) (f : PD → List Int) : Sp := fun vs H Q _ => ∃ (p : Addr) (d : PD), vs = [.ref p] ∧ PlanAt K [] H p d ∧ ∀ l, H l = none → Q (.ref l) (upd H l (.lst ((f d).map V.int)))
abbrev sp_Plan_low (K : PySem.W.Frag) : Sp := sp_list K PD.L
abbrev sp_Plan_high (K : PySem.W.Frag) : Sp := sp_list K PD.U
abbrev sp_Plan_least (K : PySem.W.Frag) : Sp := sp_list K PD.A
abbrev sp_Plan_most (K : PySem.W.Frag) : Sp := sp_list K PD.B
theorem k_Plan_low (T : Tx fa fn K mg base) : Prp P w K mg base (He.ga K "Plan") "low" 1 (sp_Plan_low K) := by
  refine T.prp 5 15 12 (q := "Plan.low") (st := s_Plan_low) sc_Plan_low (fun _ _ _ _ _ _ us hl => match us, hl with | [_], _ => rfl) (fun vs H Q E h => ?_) (fun cdv A outer s H vs Q E hr h => ?_)
  · obtain ⟨p, d, rfl, _⟩ := h
    rfl
  · obtain ⟨p, d, rfl, pd, k⟩ := h
    obtain ⟨dx, l1, l2, l3, l4, h0, ⟨h1, h2, h3, h4⟩, _⟩ := pd.ex
    refine ⟨_, (pss_one (ps_ret (pe_callTy call_list_of (by rfl) (T.fr 7) (by decide +kernel) (pa_cons (pe_fld (pv 0) rfl) pa_nil)))), ?_⟩
    walk_at "ev0"
    refine r_low T h0 ?_
    walk_at "ev"
    exact k
theorem k_Plan_high (T : Tx fa fn K mg base) : Prp P w K mg base (He.ga K "Plan") "high" 1 (sp_Plan_high K) := by
  refine T.prp 6 16 12 (q := "Plan.high") (st := s_Plan_high) sc_Plan_high (fun _ _ _ _ _ _ us hl => match us, hl with | [_], _ => rfl) (fun vs H Q E h => ?_) (fun cdv A outer s H vs Q E hr h => ?_)
  · obtain ⟨p, d, rfl, _⟩ := h
    rfl
  · obtain ⟨p, d, rfl, pd, k⟩ := h
    obtain ⟨dx, l1, l2, l3, l4, h0, ⟨h1, h2, h3, h4⟩, _⟩ := pd.ex
    refine ⟨_, (pss_one (ps_ret (pe_callTy call_list_of (by rfl) (T.fr 7) (by decide +kernel) (pa_cons (pe_fld (pv 0) rfl) pa_nil)))), ?_⟩
    walk_at "ev0"
    refine r_high T h0 ?_
    walk_at "ev"
    exact k
theorem k_Plan_most (T : Tx fa fn K mg base) : Prp P w K mg base (He.ga K "Plan") "most" 1 (sp_Plan_most K) := by
  refine T.prp 8 18 12 (q := "Plan.most") (st := s_Plan_most) sc_Plan_most (fun _ _ _ _ _ _ us hl => match us, hl with | [_], _ => rfl) (fun vs H Q E h => ?_) (fun cdv A outer s H vs Q E hr h => ?_)
  · obtain ⟨p, d, rfl, _⟩ := h
    rfl
  · obtain ⟨p, d, rfl, pd, k⟩ := h
    obtain ⟨dx, l1, l2, l3, l4, h0, ⟨h1, h2, h3, h4⟩, _⟩ := pd.ex
    refine ⟨_, (pss_one (ps_ret (pe_callTy call_list_of (by rfl) (T.fr 7) (by decide +kernel) (pa_cons (pe_fld (pv 0) rfl) pa_nil)))), ?_⟩
    walk_at "ev0"
    refine r_most T h0 ?_
    walk_at "ev"
    exact k
def sp_Plan_total (K : PySem.W.Frag) : Sp := fun vs H Q _ => ∃ (p : Addr) (d : PD), vs = [.ref p] ∧ PlanAt K [] H p d ∧ 1 ≤ d.L.length ∧ Q (.int (nth d.L (d.L.length - 1))) H
theorem k_Plan_total (T : Tx fa fn K mg base) : Prp P w K mg base (He.ga K "Plan") "total" 1 (sp_Plan_total K) := by
  refine T.prp 9 19 12 (q := "Plan.total") (st := s_Plan_total) sc_Plan_total (fun _ _ _ _ _ _ us hl => match us, hl with | [_], _ => rfl) (fun vs H Q E h => ?_) (fun cdv A outer s H vs Q E hr h => ?_)
  · obtain ⟨p, d, rfl, _⟩ := h
    rfl
  · obtain ⟨p, d, rfl, pd, h1l, k⟩ := h
    obtain ⟨dx, l1, l2, l3, l4, h0, ⟨h1, h2, h3, h4⟩, _⟩ := pd.ex
    refine ⟨_, (pss_one (ps_ret (pe_ix ix_list (pe_fld (pv 0) rfl) (pe_un un_neg pe_int) (fun _ _ => rfl)))), ?_⟩
    walk_at "ev0"
    refine r_low T h0 ?_
    walk_at "ev"
    refine r_at (atI_end (by omega)) ?_
    walk_at "ev"
    exact k
/-- a new plan made -/
theorem r_plan {H : Hp} {Q : VK} {a1 a2 a3 a4 : Addr} {d : PD} (ok : d.Ok) (h1 : H a1 = some (.lst (d.L.map V.int))) (h2 : H a2 = some (.lst (d.U.map V.int))) (h3 : H a3 = some (.lst (d.A.map V.int))) (h4 : H a4 = some (.lst (d.B.map V.int)))
    (k : ∀ p H', Fr [] H H' → NewP K H H' p d → Q (.ref p) H') : ∀ x dx, H x = none → H dx = none → dx ≠ x →
      sp_Plan___init__ K (.ref x :: ([.ref a1, .ref a2, .ref a3, .ref a4] ++ [])) (upd (upd H dx (.own x)) x (.ins (CP K) dx [])) (fun v H2 => v = .non ∧ Q (.ref x) H2) E0 := by
  intro x dx hx hdx hne
  have f1 : Fr [] H (upd H dx (.own x)) := (Fr.refl H).new hdx
  have hx1 : (upd H dx (.own x)) x = none := by
    rw [upd_ne hne.symm]
    exact hx
  have f2 : Fr [] H (upd (upd H dx (.own x)) x (.ins (CP K) dx [])) := f1.new hx1
  have nil : ∀ {a : Addr}, a ∉ ([] : List Addr) := fun m => nomatch m
  refine ⟨x, dx, a1, a2, a3, a4, d, rfl, upd_same, ⟨f2 _ _ nil h1, f2 _ _ nil h2, f2 _ _ nil h3, f2 _ _ nil h4⟩, ok, fun H' l1 l2 l3 l4 fr hx' hl hn => ⟨rfl, ?_⟩⟩
  have back : ∀ {l : Addr}, (upd (upd H dx (.own x)) x (.ins (CP K) dx [])) l = none → H l = none := fun {l} e => by
    cases e1 : H l with
    | none => rfl
    | some o =>
      rw [f2 l o nil e1] at e
      cases e
  refine k x H' (fun a o _ e => ?_) ⟨hx, fun J hJ => ⟨dx, l1, l2, l3, l4, hx', hl, ?_⟩⟩
  · exact fr a o (fun m => by
      rcases List.mem_cons.mp m with m | m
      · rw [m, hx] at e
        cases e
      · cases m) (f2 a o nil e)
  · have no : ∀ {l : Addr}, H l = none → l ∉ J := fun e m => by
      obtain ⟨o, e2⟩ := hJ _ m
      rw [e] at e2
      cases e2
    exact ⟨no hx, no (back hn.1), no (back hn.2.1), no (back hn.2.2.1), no (back hn.2.2.2)⟩
end
set_option Elab.async false
set_option linter.all false
set_option maxRecDepth 100000
set_option maxHeartbeats 4000000

section
variable {P : Program} {w : World} {K : PySem.W.Frag} {mg : Str → Option Value} {base : Heap}
theorem k_Plan_least (T : Tx fa fn K mg base) : Prp P w K mg base (He.ga K "Plan") "least" 1 (sp_Plan_least K) := by
  refine T.prp 7 17 12 (q := "Plan.least") (st := s_Plan_least) sc_Plan_least (fun _ _ _ _ _ _ us hl => match us, hl with | [_], _ => rfl) (fun vs H Q E h => ?_) (fun cdv A outer s H vs Q E hr h => ?_)
  · obtain ⟨p, d, rfl, _⟩ := h
    rfl
  · obtain ⟨p, d, rfl, pd, k⟩ := h
    obtain ⟨dx, l1, l2, l3, l4, h0, ⟨h1, h2, h3, h4⟩, _⟩ := pd.ex
    refine ⟨_, (pss_one (ps_ret (pe_callTy call_list_of (by rfl) (T.fr 7) (by decide +kernel) (pa_cons (pe_fld (pv 0) rfl) pa_nil)))), ?_⟩
    walk_at "ev0"
    refine r_least T h0 ?_
    walk_at "ev"
    exact k
def sp_Plan___len__ (K : PySem.W.Frag) : Sp := fun vs H Q _ => ∃ (p : Addr) (d : PD), vs = [.ref p] ∧ PlanAt K [] H p d ∧ Q (.int (d.L.length : Nat)) H
theorem k_Plan___len__ (T : Tx fa fn K mg base) : Mth P w K mg base (He.ga K "Plan") "__len__" ["self"] 1 (sp_Plan___len__ K) s_Plan___len__ "Plan.__len__" := by
  refine T.mth 10 20 12 (q := "Plan.__len__") (st := s_Plan___len__) sc_Plan___len__ (fun _ _ _ _ _ _ us hl => match us, hl with | [_], _ => rfl) (fun vs H Q E h => ?_) (fun cdv A outer s H vs Q E hr h => ?_)
  · obtain ⟨p, d, rfl, _⟩ := h
    rfl
  · obtain ⟨p, d, rfl, pd, k⟩ := h
    obtain ⟨dx, l1, l2, l3, l4, h0, ⟨h1, h2, h3, h4⟩, _⟩ := pd.ex
    refine ⟨_, (pss_one (ps_ret (pe_callB call_len_seq (by rfl) (T.fr 5) (by decide +kernel) (pa_cons (pe_fld (pv 0) rfl) pa_nil)))), ?_⟩
    walk_at "ev0"
    refine r_low T h0 ?_
    walk_at "ev"
    rw [show (d.L.map V.int).length = d.L.length from List.length_map _]
    exact k
abbrev sp_Plan_times (K : PySem.W.Frag) : Sp := sp_Plan___len__ K
theorem k_Plan_times (T : Tx fa fn K mg base) : Prp P w K mg base (He.ga K "Plan") "times" 1 (sp_Plan_times K) := by
  refine T.prp 4 14 12 (q := "Plan.times") (st := s_Plan_times) sc_Plan_times (fun _ _ _ _ _ _ us hl => match us, hl with | [_], _ => rfl) (fun vs H Q E h => ?_) (fun cdv A outer s H vs Q E hr h => ?_)
  · obtain ⟨p, d, rfl, _⟩ := h
    rfl
  · obtain ⟨p, d, rfl, pd, k⟩ := h
    obtain ⟨dx, l1, l2, l3, l4, h0, ⟨h1, h2, h3, h4⟩, _⟩ := pd.ex
    refine ⟨_, (pss_one (ps_ret (pe_callB call_len_seq (by rfl) (T.fr 5) (by decide +kernel) (pa_cons (pe_fld (pv 0) rfl) pa_nil)))), ?_⟩
    walk_at "ev0"
    refine r_low T h0 ?_
    walk_at "ev"
    rw [show (d.L.map V.int).length = d.L.length from List.length_map _]
    exact k
/-- len of a plan -/
theorem r_lenD {H : Hp} {Q : VK} {p : Addr} {d : PD} (pd : PlanAt K [] H p d) (hl : d.L.length < 1000000) (q : Q (.int (d.L.length : Nat)) H) : rLenP (CP K) (sp_Plan___len__ K) [.ref p] H Q := by
  obtain ⟨dx, l1, l2, l3, l4, h0, _⟩ := pd.ex
  exact ⟨p, dx, _, rfl, h0, p, d, rfl, pd, d.L.length, rfl, hl, q⟩
/-! ## == with any object -/
def sp_Plan___eq__ (K : PySem.W.Frag) : Sp := fun vs H Q _ => ∃ (p : Addr) (y : V) (d : PD), vs = [.ref p, y] ∧ PlanAt K [] H p d ∧
  ((∃ (q : Addr) (e : PD), y = .ref q ∧ PlanAt K [] H q e ∧ Q (.bl (decide (d = e))) H) ∨ ∃ t, TyX K H y t ∧ PySem.W.kitOne K t (.ref (CP K)) = some false ∧ Q (.bl false) H)
theorem pd_eq {d e : PD} : decide (d = e) = (decide (d.L = e.L) && (decide (d.U = e.U) && (decide (d.A = e.A) && decide (d.B = e.B)))) := by
  obtain ⟨a, b, c, f⟩ := d
  obtain ⟨a', b', c', f'⟩ := e
  simp [Bool.decide_and]
theorem k_Plan___eq__ (T : Tx fa fn K mg base) : Mth P w K mg base (He.ga K "Plan") "__eq__" ["self", "other"] 1 (sp_Plan___eq__ K) s_Plan___eq__ "Plan.__eq__" := by
  refine T.mth 11 22 12 (q := "Plan.__eq__") (st := s_Plan___eq__) sc_Plan___eq__ (fun _ _ _ _ _ _ us hl => match us, hl with | [_, _], _ => rfl) (fun vs H Q E h => ?_) (fun cdv A outer s H vs Q E hr h => ?_)
  · obtain ⟨p, y, d, rfl, _⟩ := h
    rfl
  · obtain ⟨p, y, d, rfl, pd, h⟩ := h
    rcases h with ⟨q, e, rfl, pe, k⟩ | ⟨t, ty, kt, k⟩
    rotate_left
    · refine ⟨_, (pss_one (ps_ret (pe_and (pe_callB call_isi (by rfl) (T.fr 0) (by decide +kernel) (pa_cons (pv 1) (pa_cons (pe_glob (v := .ref (He.ga K "Plan")) rfl (T.glo 21) rfl) pa_nil))) (pe_and (pe_cmpR (op_eqD hr.units) (pe_fld (pv 0) rfl) (pe_fld (pv 1) rfl) (nomark _)) (pe_and (pe_cmpR (op_eqD hr.units) (pe_fld (pv 0) rfl) (pe_fld (pv 1) rfl) (nomark _)) (pe_and (pe_cmpR (op_eqD hr.units) (pe_fld (pv 0) rfl) (pe_fld (pv 1) rfl) (nomark _)) (pe_one (pe_cmpR (op_eqD hr.units) (pe_fld (pv 0) rfl) (pe_fld (pv 1) rfl) (nomark _))))))))), ?_⟩
      walk_at "ev0"
      refine r_isi (.own _) ty kt ?_
      walk_at "ev"
      exact k
    obtain ⟨dx, l1, l2, l3, l4, h0, ⟨h1, h2, h3, h4⟩, _⟩ := pd.ex
    obtain ⟨dy, m1, m2, m3, m4, g0, ⟨g1, g2, g3, g4⟩, _⟩ := pe.ex
    rw [pd_eq] at k
    refine ⟨_, (pss_one (ps_ret (pe_and (pe_callB call_isi (by rfl) (T.fr 0) (by decide +kernel) (pa_cons (pv 1) (pa_cons (pe_glob (v := .ref (He.ga K "Plan")) rfl (T.glo 21) rfl) pa_nil))) (pe_and (pe_cmpR (op_eqD hr.units) (pe_fld (pv 0) rfl) (pe_fld (pv 1) rfl) (nomark _)) (pe_and (pe_cmpR (op_eqD hr.units) (pe_fld (pv 0) rfl) (pe_fld (pv 1) rfl) (nomark _)) (pe_and (pe_cmpR (op_eqD hr.units) (pe_fld (pv 0) rfl) (pe_fld (pv 1) rfl) (nomark _)) (pe_one (pe_cmpR (op_eqD hr.units) (pe_fld (pv 0) rfl) (pe_fld (pv 1) rfl) (nomark _))))))))), ?_⟩
    walk_at "ev0"
    refine r_isi (.own _) (T.isi 38 12 g0) (T.kit 41) ?_
    walk_at "ev"
    refine r_low T h0 ?_
    walk_at "ev"
    refine r_low T g0 (r_eqI (SqL.of h1) (SqL.of g1) ?_)
    walk_at "ev"
    refine r_ite (fun z1 => ?_) (fun z1 => ?_)
    rotate_left
    · rw [decide_eq_false z1] at k
      exact k
    rw [decide_eq_true z1] at k
    walk_at "ev"
    refine r_high T h0 ?_
    walk_at "ev"
    refine r_high T g0 (r_eqI (SqL.of h2) (SqL.of g2) ?_)
    walk_at "ev"
    refine r_ite (fun z2 => ?_) (fun z2 => ?_)
    rotate_left
    · rw [decide_eq_false z2] at k
      exact k
    rw [decide_eq_true z2] at k
    walk_at "ev"
    refine r_least T h0 ?_
    walk_at "ev"
    refine r_least T g0 (r_eqI (SqL.of h3) (SqL.of g3) ?_)
    walk_at "ev"
    refine r_ite (fun z3 => ?_) (fun z3 => ?_)
    rotate_left
    · rw [decide_eq_false z3] at k
      exact k
    rw [decide_eq_true z3] at k
    walk_at "ev"
    refine r_most T h0 ?_
    walk_at "ev"
    refine r_most T g0 (r_eqI (SqL.of h4) (SqL.of g4) ?_)
    walk_at "ev"
    exact k
/-- x == y, x != y of two plans -/
theorem r_eqX {H : Hp} {Q : VK} {p q : Addr} {d e : PD} (pd : PlanAt K [] H p d) (pe : PlanAt K [] H q e) (k : Q (.bl (decide (d = e))) H) : rEqX K (CP K) (sp_Plan___eq__ K) (.ref p) (.ref q) H Q := by
  obtain ⟨dx, l1, l2, l3, l4, h0, _⟩ := pd.ex
  obtain ⟨dy, m1, m2, m3, m4, g0, _⟩ := pe.ex
  exact ⟨p, dx, _, rfl, h0, .inl ⟨q, dy, _, rfl, g0⟩, p, _, d, rfl, pd, .inl ⟨q, e, rfl, pe, _, rfl, k⟩⟩
theorem r_neX {H : Hp} {Q : VK} {p q : Addr} {d e : PD} (pd : PlanAt K [] H p d) (pe : PlanAt K [] H q e) (k : Q (.bl (!decide (d = e))) H) : rNeX K (CP K) (sp_Plan___eq__ K) (.ref p) (.ref q) H Q := by
  obtain ⟨dx, l1, l2, l3, l4, h0, _⟩ := pd.ex
  obtain ⟨dy, m1, m2, m3, m4, g0, _⟩ := pe.ex
  exact ⟨p, dx, _, rfl, h0, .inl ⟨q, dy, _, rfl, g0⟩, p, _, d, rfl, pd, .inl ⟨q, e, rfl, pe, _, rfl, k⟩⟩
/-- what is no plan: its type is a built-in one -/
def Odd (K : PySem.W.Frag) (H : Hp) (y : V) : Prop := ∃ T, TyB K H y T ∧ TyN T ∧ TyX K H y (.type T)
theorem r_eqO (T : Tx fa fn K mg base) {H : Hp} {Q : VK} {p : Addr} {y : V} {d : PD} (pd : PlanAt K [] H p d) (o : Odd K H y) (k : Q (.bl false) H) : rEqX K (CP K) (sp_Plan___eq__ K) (.ref p) y H Q := by
  obtain ⟨dx, l1, l2, l3, l4, h0, _⟩ := pd.ex
  obtain ⟨t, tb, tn, tx⟩ := o
  exact ⟨p, dx, _, rfl, h0, .inr ⟨t, tb, tn⟩, p, _, d, rfl, pd, .inr ⟨_, tx, T.tyc 46 (by simp) tn.sub, _, rfl, k⟩⟩
theorem r_neO (T : Tx fa fn K mg base) {H : Hp} {Q : VK} {p : Addr} {y : V} {d : PD} (pd : PlanAt K [] H p d) (o : Odd K H y) (k : Q (.bl true) H) : rNeX K (CP K) (sp_Plan___eq__ K) (.ref p) y H Q := by
  obtain ⟨dx, l1, l2, l3, l4, h0, _⟩ := pd.ex
  obtain ⟨t, tb, tn, tx⟩ := o
  exact ⟨p, dx, _, rfl, h0, .inr ⟨t, tb, tn⟩, p, _, d, rfl, pd, .inr ⟨_, tx, T.tyc 46 (by simp) tn.sub, _, rfl, k⟩⟩
end
set_option Elab.async false
set_option linter.all false
set_option maxRecDepth 100000
set_option maxHeartbeats 4000000

section
variable {P : Program} {w : World} {K : PySem.W.Frag} {mg : Str → Option Value} {base : Heap}
theorem abs_lt {x : Int} {n : Nat} (h0 : 0 ≤ x) (h : x < 2 ^ n) : x.natAbs < 2 ^ n := by
  have e : ((2 ^ n : Nat) : Int) = (2 : Int) ^ n := by simp
  omega
/-! ## a jar made -/
def sp__law_jar (K : PySem.W.Frag) : Sp := fun vs H Q _ => ∃ (a : Addr) (ns : List Int) (k : Int), vs = [.ref a, .int k] ∧ SqL K H a (ns.map V.int) ∧ (0 ≤ k ∧ k ≤ 1000) ∧ ∀ p H', H p = none → Fr [] H H' → JarAt H' p 1000000 → Q (.ref p) H'
theorem k__law_jar (T : Tx fa fn K mg base) : Fk P w K mg base "_law_jar" ["script", "k"] 1 (sp__law_jar K) s__law_jar "_law_jar" := by
  refine T.fk 12 25 (q := "_law_jar") (st := s__law_jar) sc__law_jar (fun _ _ _ _ _ _ us hl => match us, hl with | [_, _], _ => rfl) (fun vs H Q E h => ?_) (fun cdv A outer s H vs Q E hr h => ?_)
  · obtain ⟨a, ns, k, rfl, _⟩ := h
    rfl
  · obtain ⟨a, ns, k, rfl, ha, hk, q⟩ := h
    have hl : (ns.map V.int).length = ns.length := List.length_map _
    refine ⟨_, (pss_cons (ps_set (i := 2) sc__law_jar.nd rfl (by first | exact Or.inl rfl | exact Or.inr rfl) (pe_ifExp (pt_cmpR op_lt (pv 1) (pe_callB call_len_seq (by rfl) (T.fr 5) (by decide +kernel) (pa_cons (pv 0) pa_nil)) (nomark _)) (pe_callB call_abs (by rfl) (T.fr 24) (by decide +kernel) (pa_cons (pe_ix ix_list (pv 0) (pv 1) (fun _ _ => rfl)) pa_nil)) pe_int))
      (pss_one (ps_ret (pe_lst (pa_cons (pe_callB (call_max2 rfl) (by rfl) (T.fr 23) (by decide +kernel) (pa_cons pe_int (pa_cons (pe_op op_sub (pv 2) (pe_op op_powW pe_int pe_int)) pa_nil))) (pa_cons (pe_op op_add (pe_op op_mulW (pe_op op_mod (pe_callTy call_int1 (by rfl) (T.fr 2) (by decide +kernel) (pa_cons (pv 2) pa_nil)) (pe_op op_add (pe_op op_powW pe_int pe_int) pe_int)) pe_int) (pe_op op_mulW pe_int (pv 1))) (pa_cons pe_int pa_nil))))))), ?_⟩
    walk_at "ev0"
    have key : ∀ z : Int, 0 ≤ z → ∀ k : Int, 0 ≤ k → k ≤ 1000 → ∀ p, H p = none → JarAt (upd H p (JarO (if z - 10 ^ Int.toNat 18 > 0 then z - 10 ^ Int.toNat 18 else 0) (z % (10 ^ Int.toNat 43 + 57) * 101 + 70001 * k) 0)) p 1000000 := fun z hz k k0 k1 p hp => by
      have e0 : 0 ≤ z % (10 ^ Int.toNat 43 + 57) := Int.emod_nonneg _ (by decide +kernel)
      have e1 : z % (10 ^ Int.toNat 43 + 57) < 2 ^ 150 := Int.lt_trans (Int.emod_lt_of_pos _ (by decide +kernel)) (by decide +kernel)
      refine ⟨_, _, _, upd_same, ?_, ?_, ?_, by decide, by decide⟩
      · split <;> omega
      · omega
      · omega
    have go : ∀ z : Int, 0 ≤ z → (∀ p, H p = none → Q (.ref p) (upd H p (JarO (if z - 10 ^ Int.toNat 18 > 0 then z - 10 ^ Int.toNat 18 else 0) (z % (10 ^ Int.toNat 43 + 57) * 101 + 70001 * k) 0))) := fun z hz p hp => q p _ hp ((Fr.refl H).new hp) (key z hz k hk.1 hk.2 p hp)
    have m1 : ∀ z : Int, CMulW (z % (10 ^ Int.toNat 43 + 57)) 101 := fun z => by
      have e0 : 0 ≤ z % (10 ^ Int.toNat 43 + 57) := Int.emod_nonneg _ (by decide +kernel)
      have e1 : z % (10 ^ Int.toNat 43 + 57) < 2 ^ 150 := Int.lt_trans (Int.emod_lt_of_pos _ (by decide +kernel)) (by decide +kernel)
      exact wide_mul (a := 150) (b := 30) (natAbs_lt (by omega) e1) (by decide) (by decide) (by decide) (by decide)
    have m2 : CMulW 70001 k := wide_mul (a := 30) (b := 30) (by decide) (natAbs_lt (by omega) (by omega)) (by decide) (by decide) (by decide)
    refine r_ite (fun hlt => ?_) (fun hlt => ?_)
    · walk_at "ev"
      refine r_at (atI_nth (by omega) (by omega)) ?_
      walk_at "ev"
      refine r_I (by decide +kernel) ?_
      walk_at "ev"
      refine r_I (m1 _) ?_
      walk_at "ev"
      refine r_I m2 ?_
      walk_at "ev"
      exact go _ (by split <;> omega)
    · walk_at "ev"
      refine r_I (by decide +kernel) ?_
      walk_at "ev"
      refine r_I (m1 _) ?_
      walk_at "ev"
      refine r_I m2 ?_
      walk_at "ev"
      exact go _ (by decide)
/-! ## a draw -/
def sp__law_dip (K : PySem.W.Frag) : Sp := fun vs H Q _ => ∃ (j : Addr) (m : Int) (n : Nat), vs = [.ref j, .int m] ∧ JarAt H j (n + 1) ∧ 0 < m ∧ m < 2 ^ 1000 ∧ ∀ v H', 0 ≤ v → v < m → Fr [j] H H' → JarAt H' j n → Q (.int v) H'
theorem k__law_dip (T : Tx fa fn K mg base) : Fk P w K mg base "_law_dip" ["jar", "many"] 1 (sp__law_dip K) s__law_dip "_law_dip" := by
  refine T.fk 13 26 (q := "_law_dip") (st := s__law_dip) sc__law_dip (fun _ _ _ _ _ _ us hl => match us, hl with | [_, _], _ => rfl) (fun vs H Q E h => ?_) (fun cdv A outer s H vs Q E hr h => ?_)
  · obtain ⟨j, m, n, rfl, _⟩ := h
    rfl
  · obtain ⟨j, m, n, rfl, ⟨a, b, c, hj, jb⟩, m0, m1, k⟩ := h
    have wm := abs_lt (Int.le_of_lt m0) m1
    have fr1 : ∀ {o : HO}, Fr [j] H (upd H j o) := fun {o} x u hx e => by
      rw [upd_ne (fun z => hx (by rw [z]; exact List.mem_cons_self))]
      exact e
    refine ⟨_, (pss_cons (ps_if (pt_cmpR op_gt (pe_ix ix_list (pv 0) pe_int (fun _ _ => rfl)) pe_int (nomark _)) (pss_cons (ps_set (i := 2) sc__law_dip.nd rfl (by first | exact Or.inl rfl | exact Or.inr rfl) (pe_op op_mod (pe_callTy call_int1 (by rfl) (T.fr 2) (by decide +kernel) (pa_cons (pe_ix ix_list (pv 0) pe_int (fun _ _ => rfl)) pa_nil)) (pv 1)))
      (pss_cons (ps_asg (pe_op op_fdivW (pe_ix ix_list (pv 0) pe_int (fun _ _ => rfl)) (pv 1)) (pg_sub (pv 0) pe_int set_list))
      (pss_one (ps_ret (pv 2))))) pss_nil)
      (pss_cons (ps_asg (pe_op op_add (pe_ix ix_list (pv 0) pe_int (fun _ _ => rfl)) pe_int) (pg_sub (pv 0) pe_int set_list))
      (pss_cons (ps_set (i := 3) sc__law_dip.nd rfl (by first | exact Or.inl rfl | exact Or.inr rfl) (pe_op op_mod (pe_callTy call_int1 (by rfl) (T.fr 2) (by decide +kernel) (pa_cons (pe_op op_powW (pe_op op_add (pe_ix ix_list (pv 0) pe_int (fun _ _ => rfl)) (pe_op op_mulW pe_int (pe_ix ix_list (pv 0) pe_int (fun _ _ => rfl)))) pe_int) pa_nil)) (pe_op op_add (pe_op op_powW pe_int pe_int) pe_int)))
      (pss_cons (ps_set (i := 3) sc__law_dip.nd rfl (by first | exact Or.inl rfl | exact Or.inr rfl) (pe_op op_mod (pe_callTy call_int1 (by rfl) (T.fr 2) (by decide +kernel) (pa_cons (pe_op op_powW (pe_op op_add (pv 3) (pe_op op_mulW pe_int (pe_ix ix_list (pv 0) pe_int (fun _ _ => rfl)))) pe_int) pa_nil)) (pe_op op_add (pe_op op_powW pe_int pe_int) pe_int)))
      (pss_one (ps_ret (pe_op op_mod (pe_callTy call_int1 (by rfl) (T.fr 2) (by decide +kernel) (pa_cons (pe_op op_fdivW (pv 3) pe_int) pa_nil)) (pv 1)))))))), ?_⟩
    walk_at "ev0"
    refine r_ite (fun h0 => ?_) (fun h0 => ?_)
    · walk_at "ev"
      refine r_I m0 ?_
      walk_at "ev"
      refine r_I (wide_div m0 wm (by decide) (by decide)) ?_
      walk_at "ev"
      exact k _ _ (Int.emod_nonneg _ (by omega)) (Int.emod_lt_of_pos _ m0) fr1 ⟨a / m, b, c, upd_same, Int.ediv_nonneg jb.a0 (by omega), jb.b0, jb.b1, jb.c0, by have := jb.c1; omega⟩
    · have c1 := jb.c1
      have c0 := jb.c0
      have b0 := jb.b0
      have b1 := jb.b1
      walk_at "ev"
      refine r_I (wide_mul (a := 30) (b := 30) (by decide) (natAbs_lt (by omega) (by omega)) (by decide) (by decide) (by decide)) ?_
      walk_at "ev"
      refine r_I (powW (b := 201) (by decide) (by decide) (natAbs_lt (by omega) (by omega)) (by decide) (by decide)) ?_
      walk_at "ev"
      refine r_I (by decide +kernel) ?_
      generalize hx : (b + 60000049 * (c + 1)) ^ Int.toNat 3 % (10 ^ Int.toNat 47 + 91) = x
      have x0 : 0 ≤ x := by
        rw [← hx]
        exact Int.emod_nonneg _ (by decide +kernel)
      have x1 : x < 2 ^ 200 := by
        rw [← hx]
        exact Int.lt_trans (Int.emod_lt_of_pos _ (by decide +kernel)) (by decide +kernel)
      walk_at "ev"
      refine r_I (wide_mul (a := 30) (b := 30) (by decide) (natAbs_lt (by omega) (by omega)) (by decide) (by decide) (by decide)) ?_
      walk_at "ev"
      refine r_I (powW (b := 201) (by decide) (by decide) (natAbs_lt (by omega) (by omega)) (by decide) (by decide)) ?_
      walk_at "ev"
      refine r_I (by decide +kernel) ?_
      walk_at "ev"
      refine r_I (wide_div (b := 40) (by decide) (by decide) (by decide) (by decide)) ?_
      walk_at "ev"
      refine r_I m0 ?_
      walk_at "ev"
      exact k _ _ (Int.emod_nonneg _ (by omega)) (Int.emod_lt_of_pos _ m0) fr1 ⟨a, b, c + 1, upd_same, jb.a0, jb.b0, jb.b1, by omega, by omega⟩
end
set_option Elab.async false
set_option linter.all false
set_option maxRecDepth 100000
set_option maxHeartbeats 4000000

theorem nth_app_lt {ns : List Int} {x : Int} {i : Nat} (h : i < ns.length) : nth (ns ++ [x]) i = nth ns i := by
  unfold nth
  rw [List.getD_eq_getElem?_getD, List.getD_eq_getElem?_getD, List.getElem?_append_left h]
theorem nth_app_at {ns : List Int} {x : Int} {i : Nat} (h : i = ns.length) : nth (ns ++ [x]) i = x := by
  unfold nth
  rw [List.getD_eq_getElem?_getD, h, List.getElem?_concat_length]
  rfl
theorem nth_set_ne {ns : List Int} {x : Int} {i k : Nat} (h : i ≠ k) : nth (ns.set k x) i = nth ns i := by
  unfold nth
  rw [List.getD_eq_getElem?_getD, List.getD_eq_getElem?_getD, List.getElem?_set_ne (Ne.symm h)]
theorem nth_set_at {ns : List Int} {x : Int} {k : Nat} (h : k < ns.length) : nth (ns.set k x) k = x := by
  unfold nth
  rw [List.getD_eq_getElem?_getD, List.getElem?_set_self h]
  rfl
/-- the sum of the first ones, up to the i-th -/
def psum (ns : List Int) (i : Nat) : Int := (ns.take (i + 1)).sum
theorem take_sum {ns : List Int} {i : Nat} (h : i < ns.length) : (ns.take (i + 1)).sum = (ns.take i).sum + nth ns i := by
  rw [← getElem_nth h]
  exact sum_take (List.getElem?_eq_getElem h)
theorem ixN_end {n : Nat} (h : 0 < n) : ixN n (-1) = some (n - 1) := by
  unfold ixN
  rw [if_neg (by decide), if_pos (by omega)]
  congr 1
  omega
/-- bounds around the entries ns -/
structure RawOk (ns : List Int) (d : PD) : Prop where
  lL : d.L.length = ns.length
  lU : d.U.length = ns.length
  lA : d.A.length = ns.length
  lB : d.B.length = ns.length
  l : ∀ i, i < ns.length → nth d.L i ≤ psum ns i
  u : ∀ i, i < ns.length → psum ns i ≤ nth d.U i
  a : ∀ i, i < ns.length → nth d.A i ≤ nth ns i
  b : ∀ i, i < ns.length → nth ns i ≤ nth d.B i
  tL : nth d.L (ns.length - 1) = psum ns (ns.length - 1)
  tU : nth d.U (ns.length - 1) = psum ns (ns.length - 1)
  w : ∀ i, i < ns.length → nth d.U i - nth d.L i ≤ 2 ^ 160
  v : ∀ i, i < ns.length → nth d.B i - nth d.A i ≤ 2 ^ 160
  e : ∀ x ∈ ns, -(2 ^ 110) ≤ x ∧ x ≤ 2 ^ 110
theorem RawOk.ok {ns : List Int} {d : PD} (r : RawOk ns d) (h1 : 1 ≤ ns.length) (h2 : ns.length ≤ 200) : d.Ok where
  one := by rw [r.lL]; exact h1
  most := by rw [r.lL]; exact h2
  lU := by rw [r.lL, r.lU]
  lA := by rw [r.lL, r.lA]
  lB := by rw [r.lL, r.lB]
  lu := fun i hi => by
    rw [r.lL] at hi
    exact Int.le_trans (r.l i hi) (r.u i hi)
  ab := fun i hi => by
    rw [r.lL] at hi
    exact Int.le_trans (r.a i hi) (r.b i hi)
  tot := by rw [r.lL, r.tL, r.tU]
/-- the four lists of bounds as they lie -/
abbrev rawN (t l1 l2 l3 l4 : Addr) (d : PD) : List (Addr × HO) := [(t, .tup [.ref l1, .ref l2, .ref l3, .ref l4]), (l1, .lst (d.L.map V.int)), (l2, .lst (d.U.map V.int)), (l3, .lst (d.A.map V.int)), (l4, .lst (d.B.map V.int))]
section
variable {P : Program} {w : World} {K : PySem.W.Frag} {mg : Str → Option Value} {base : Heap}
def sp__law_around (K : PySem.W.Frag) : Sp := fun vs H Q _ => ∃ (j dr : Addr) (ns : List Int) (wide : Int) (n : Nat), vs = [.ref j, .ref dr, .int wide] ∧ (H dr = some (.lst (ns.map V.int)) ∧ dr ≠ j) ∧ JarAt H j (n + 4 * ns.length) ∧ (1 ≤ ns.length ∧ ns.length ≤ 200) ∧ (0 < wide ∧ wide < 2 ^ 150) ∧ (∀ x ∈ ns, -(2 ^ 110) ≤ x ∧ x ≤ 2 ^ 110) ∧
  ∀ t l1 l2 l3 l4 d H', Fr [j] H H' → JarAt H' j n → New H H' (rawN t l1 l2 l3 l4 d) → RawOk ns d → (∀ i, i < ns.length → nth d.U i - nth d.L i ≤ 2 * wide) → Q (.ref t) H'
theorem k__law_around (T : Tx fa fn K mg base) : Fk P w K mg base "_law_around" ["jar", "drawn", "wide"] 2 (sp__law_around K) s__law_around "_law_around" := by
  refine T.fk 14 27 (q := "_law_around") (st := s__law_around) sc__law_around (fun _ _ _ _ _ _ us hl => match us, hl with | [_, _, _], _ => rfl) (fun vs H Q E h => ?_) (fun cdv A outer s H vs Q E hr h => ?_)
  · obtain ⟨j, dr, ns, wide, n, rfl, _⟩ := h
    rfl
  · obtain ⟨j, dr, ns, wide, n, rfl, ⟨hd, nd⟩, hj, ⟨h1, h2⟩, ⟨w0, w1⟩, bnd, k⟩ := h
    refine ⟨_, (pss_cons (ps_asg (pe_tup (pa_cons (pe_lst pa_nil) (pa_cons (pe_lst pa_nil) (pa_cons (pe_lst pa_nil) (pa_cons (pe_lst pa_nil) (pa_cons pe_int pa_nil)))))) (pg_tup rfl (pgs_cons (pg_name (i := 3) sc__law_around.nd rfl (by first | exact Or.inl rfl | exact Or.inr rfl)) (pgs_cons (pg_name (i := 4) sc__law_around.nd rfl (by first | exact Or.inl rfl | exact Or.inr rfl)) (pgs_cons (pg_name (i := 5) sc__law_around.nd rfl (by first | exact Or.inl rfl | exact Or.inr rfl)) (pgs_cons (pg_name (i := 6) sc__law_around.nd rfl (by first | exact Or.inl rfl | exact Or.inr rfl)) (pgs_cons (pg_name (i := 7) sc__law_around.nd rfl (by first | exact Or.inl rfl | exact Or.inr rfl)) pgs_nil)))))))
      (pss_cons (ps_for PassesOwn.never rfl (pi_list (pv 1)) (pg_name (i := 8) sc__law_around.nd rfl (by first | exact Or.inl rfl | exact Or.inr rfl)) (pss_cons (ps_set (i := 7) sc__law_around.nd rfl (by first | exact Or.inl rfl | exact Or.inr rfl) (pe_op op_add (pv 7) (pv 8)))
      (pss_cons (ps_expr (pe_bm PySem.F.plainAttrs_list PySem.F.slot_list_append PySem.F.type_list_append mt_append (pv 3) (pa_cons (pe_op op_sub (pv 7) (pe_f (k__law_dip T) hr (pa_cons (pv 0) (pa_cons (pv 2) pa_nil)))) pa_nil)))
      (pss_cons (ps_expr (pe_bm PySem.F.plainAttrs_list PySem.F.slot_list_append PySem.F.type_list_append mt_append (pv 4) (pa_cons (pe_op op_add (pv 7) (pe_f (k__law_dip T) hr (pa_cons (pv 0) (pa_cons (pv 2) pa_nil)))) pa_nil)))
      (pss_cons (ps_expr (pe_bm PySem.F.plainAttrs_list PySem.F.slot_list_append PySem.F.type_list_append mt_append (pv 5) (pa_cons (pe_op op_sub (pv 8) (pe_f (k__law_dip T) hr (pa_cons (pv 0) (pa_cons (pv 2) pa_nil)))) pa_nil)))
      (pss_one (ps_expr (pe_bm PySem.F.plainAttrs_list PySem.F.slot_list_append PySem.F.type_list_append mt_append (pv 6) (pa_cons (pe_op op_add (pv 8) (pe_f (k__law_dip T) hr (pa_cons (pv 0) (pa_cons (pv 2) pa_nil)))) pa_nil)))))))))
      (pss_cons (ps_asg (pe_tup (pa_cons (pv 7) (pa_cons (pv 7) pa_nil))) (pg_tup rfl (pgs_cons (pg_sub (pv 3) (pe_un un_neg pe_int) set_list) (pgs_cons (pg_sub (pv 4) (pe_un un_neg pe_int) set_list) pgs_nil))))
      (pss_one (ps_ret (pe_tup (pa_cons (pv 3) (pa_cons (pv 4) (pa_cons (pv 5) (pa_cons (pv 6) pa_nil)))))))))), ?_⟩
    walk_at "ev0"
    have z0 := ZJ.start hj
    intro l1 k1
    have z1 := z0.alloc (.lst []) k1
    walk_at "ev"
    intro l2 k2
    have z2 := z1.alloc (.lst []) k2
    walk_at "ev"
    intro l3 k3
    have z3 := z2.alloc (.lst []) k3
    walk_at "ev"
    intro l4 k4
    have z4 := z3.alloc (.lst []) k4
    walk_at "ev"
    intro t0 k5
    have z5 := z4.alloc (.tup [.ref l1, .ref l2, .ref l3, .ref l4, .int 0]) k5
    walk_at "ev"
    have z6 := z5.sub (E' := [(2, l4, .lst []), (2, l3, .lst []), (2, l2, .lst []), (2, l1, .lst [])]) (.cons _ (List.Sublist.refl _))
    refine for_it (walk_list (xs := ns.map V.int)) (fun i σ H' => ∃ (d : PD) (v : Option V), σ = [some (.ref j), some (.ref dr), some (.int wide), some (.ref l1), some (.ref l2), some (.ref l3), some (.ref l4), some (.int (ns.take i).sum), v] ∧
      ZJ H H' j (n + 4 * (ns.length - i)) [(2, l4, .lst (d.B.map V.int)), (2, l3, .lst (d.A.map V.int)), (2, l2, .lst (d.U.map V.int)), (2, l1, .lst (d.L.map V.int))] ∧ (d.L.length = i ∧ d.U.length = i ∧ d.A.length = i ∧ d.B.length = i) ∧
      (∀ x, x < i → nth d.L x ≤ psum ns x ∧ psum ns x ≤ nth d.U x ∧ nth d.A x ≤ nth ns x ∧ nth ns x ≤ nth d.B x ∧ nth d.U x - nth d.L x ≤ 2 * wide ∧ nth d.B x - nth d.A x ≤ 2 * wide)) ⟨⟨[], [], [], []⟩, none, rfl, z6, ⟨rfl, rfl, rfl, rfl⟩, fun x hx => absurd hx (Nat.not_lt_zero x)⟩ (fun i σ H' _ p => ?_) (fun i x σ H' H'' hi p y => ?_) (fun σ H' p => ?_)
    · obtain ⟨d, v, _, z, _⟩ := p
      exact SqL.of (z.keep hd nd)
    · obtain ⟨d, v, rfl, z, ⟨m1, m2, m3, m4⟩, hp⟩ := p
      obtain ⟨rfl, hx⟩ := y
      obtain rfl := nth_at hx
      have hi' : i < ns.length := by simpa using hi
      walk_at "ev"
      refine ⟨j, wide, n + 4 * (ns.length - i) - 1, rfl, z.jar.le (by omega), w0, Int.lt_trans w1 (by decide +kernel), fun v1 G1 a1 b1 f1 q1 => ?_⟩
      have y1 := z.dips f1 q1
      walk_at "ev"
      have y2 := y1.set 3 (.lst (d.L.map V.int ++ [.int ((ns.take i).sum + nth ns i - v1)])) rfl
      walk_at "ev"
      refine ⟨j, wide, n + 4 * (ns.length - i) - 2, rfl, y2.jar.le (by omega), w0, Int.lt_trans w1 (by decide +kernel), fun v2 G2 a2 b2 f2 q2 => ?_⟩
      have y3 := y2.dips f2 q2
      walk_at "ev"
      have y4 := y3.set 2 (.lst (d.U.map V.int ++ [.int ((ns.take i).sum + nth ns i + v2)])) rfl
      walk_at "ev"
      refine ⟨j, wide, n + 4 * (ns.length - i) - 3, rfl, y4.jar.le (by omega), w0, Int.lt_trans w1 (by decide +kernel), fun v3 G3 a3 b3 f3 q3 => ?_⟩
      have y5 := y4.dips f3 q3
      walk_at "ev"
      have y6 := y5.set 1 (.lst (d.A.map V.int ++ [.int (nth ns i - v3)])) rfl
      walk_at "ev"
      refine ⟨j, wide, n + 4 * (ns.length - i) - 4, rfl, y6.jar.le (by omega), w0, Int.lt_trans w1 (by decide +kernel), fun v4 G4 a4 b4 f4 q4 => ?_⟩
      have y7 := y6.dips f4 q4
      walk_at "ev"
      have y8 := y7.set 0 (.lst (d.B.map V.int ++ [.int (nth ns i + v4)])) rfl
      refine ⟨⟨d.L ++ [(ns.take i).sum + nth ns i - v1], d.U ++ [(ns.take i).sum + nth ns i + v2], d.A ++ [nth ns i - v3], d.B ++ [nth ns i + v4]⟩, some (.int (nth ns i)), ?_, ?_, ⟨by simp [m1], by simp [m2], by simp [m3], by simp [m4]⟩, fun x hx => ?_⟩
      · rw [take_sum hi']
        rfl
      · simp only [List.map_append, List.map_cons, List.map_nil]
        exact y8.le (by omega)
      · have es : psum ns i = (ns.take i).sum + nth ns i := take_sum hi'
        rcases Nat.lt_or_ge x i with hxi | hxi
        · rw [nth_app_lt (by omega), nth_app_lt (by omega), nth_app_lt (by omega), nth_app_lt (by omega)]
          exact hp x hxi
        · have e : x = i := by omega
          subst e
          rw [nth_app_at m1.symm, nth_app_at m2.symm, nth_app_at m3.symm, nth_app_at m4.symm]
          omega
    · obtain ⟨d, v, rfl, z, ⟨m1, m2, m3, m4⟩, hp⟩ := p
      rw [List.length_map] at m1 m2 m3 m4
      have z := z.le (m := n) (by omega)
      rw [List.length_map] at hp
      have hs : (ns.take (ns.map V.int).length).sum = psum ns (ns.length - 1) := by
        unfold psum
        rw [List.length_map, show ns.length - 1 + 1 = ns.length by omega]
      rw [hs]
      generalize hS : psum ns (ns.length - 1) = S
      walk_at "ev"
      intro t1 k6
      have y1 := z.alloc (.tup [.int S, .int S]) k6
      walk_at "ev"
      refine r_ixn (ixN_end (by rw [List.length_map]; omega)) ?_
      have y2 := y1.set 4 (.lst ((d.L.map V.int).set ((d.L.map V.int).length - 1) (.int S))) rfl
      walk_at "ev"
      refine r_ixn (ixN_end (by rw [List.length_map]; omega)) ?_
      have y3 := y2.set 3 (.lst ((d.U.map V.int).set ((d.U.map V.int).length - 1) (.int S))) rfl
      walk_at "ev"
      intro t2 k7
      have y4 := y3.alloc (.tup [.ref l1, .ref l2, .ref l3, .ref l4]) k7
      have e1 : (d.L.map V.int).set ((d.L.map V.int).length - 1) (.int S) = (d.L.set (ns.length - 1) S).map V.int := by rw [List.map_set, List.length_map, m1]
      have e2 : (d.U.map V.int).set ((d.U.map V.int).length - 1) (.int S) = (d.U.set (ns.length - 1) S).map V.int := by rw [List.map_set, List.length_map, m2]
      simp only [e1, e2] at y4 ⊢
      have hw : ∀ i, i < ns.length → nth (d.U.set (ns.length - 1) S) i - nth (d.L.set (ns.length - 1) S) i ≤ 2 * wide := fun i hi => by
        by_cases e : i = ns.length - 1
        · subst e
          rw [nth_set_at (by omega), nth_set_at (by omega)]
          omega
        · rw [nth_set_ne e, nth_set_ne e]
          exact (hp i hi).2.2.2.2.1
      refine k t2 l1 l2 l3 l4 ⟨d.L.set (ns.length - 1) S, d.U.set (ns.length - 1) S, d.A, d.B⟩ _ y4.fr y4.jar ?_ ?_ hw
      · exact y4.pick [0, 5, 4, 3, 2] rfl
      · have last : ∀ {l : List Int}, l.length = ns.length → nth (l.set (ns.length - 1) S) (ns.length - 1) = S := fun {l} e => nth_set_at (by omega)
        refine ⟨by simp [m1], by simp [m2], m3, m4, fun i hi => ?_, fun i hi => ?_, fun i hi => (hp i hi).2.2.1, fun i hi => (hp i hi).2.2.2.1, ?_, ?_, fun i hi => Int.le_trans (hw i hi) ?_, fun i hi => Int.le_trans (hp i hi).2.2.2.2.2 ?_, bnd⟩
        · by_cases e : i = ns.length - 1
          · subst e
            rw [last m1, hS]
            exact Int.le_refl _
          · rw [nth_set_ne e]
            exact (hp i hi).1
        · by_cases e : i = ns.length - 1
          · subst e
            rw [last m2, hS]
            exact Int.le_refl _
          · rw [nth_set_ne e]
            exact (hp i hi).2.1
        · rw [hS]
          exact last m1
        · rw [hS]
          exact last m2
        · have : (2 : Int) * 2 ^ 150 ≤ 2 ^ 160 := by decide +kernel
          omega
        · have : (2 : Int) * 2 ^ 150 ≤ 2 ^ 160 := by decide +kernel
          omega
/-- one of three written numbers -/
theorem three {a b c : Int} {v : Int} (h0 : 0 ≤ v) (h1 : v < 3) : ∃ x, atI [V.int a, V.int b, V.int c] v = some (.int x) ∧ (x = a ∨ x = b ∨ x = c) := by
  rcases (show v = 0 ∨ v = 1 ∨ v = 2 by omega) with rfl | rfl | rfl
  · exact ⟨a, rfl, .inl rfl⟩
  · exact ⟨b, rfl, .inr (.inl rfl)⟩
  · exact ⟨c, rfl, .inr (.inr rfl)⟩
/-- other bounds of the entries -/
theorem RawOk.with {ns : List Int} {d : PD} (r : RawOk ns d) {A B : List Int} (lA : A.length = ns.length) (lB : B.length = ns.length) (a : ∀ i, i < ns.length → nth A i ≤ nth ns i) (b : ∀ i, i < ns.length → nth ns i ≤ nth B i) (v : ∀ i, i < ns.length → nth B i - nth A i ≤ 2 ^ 160) : RawOk ns ⟨d.L, d.U, A, B⟩ :=
  ⟨r.lL, r.lU, lA, lB, r.l, r.u, a, b, r.tL, r.tU, r.w, v, r.e⟩
/-! ## small bounds -/
def sp__law_small (K : PySem.W.Frag) : Sp := fun vs H Q _ => ∃ (j : Addr) (m : Int) (n : Nat), vs = [.ref j, .int m] ∧ JarAt H j (n + 1000) ∧ (1 ≤ m ∧ m ≤ 100) ∧
  ∀ t l1 l2 l3 l4 d ns H', Fr [j] H H' → JarAt H' j n → New H H' (rawN t l1 l2 l3 l4 d) → RawOk ns d → (1 ≤ ns.length ∧ (ns.length : Int) ≤ m) → Q (.ref t) H'
theorem k__law_small (T : Tx fa fn K mg base) : Fk P w K mg base "_law_small" ["jar", "longest"] 3 (sp__law_small K) s__law_small "_law_small" := by
  refine T.fk 15 30 (q := "_law_small") (st := s__law_small) sc__law_small (fun _ _ _ _ _ _ us hl => match us, hl with | [_, _], _ => rfl) (fun vs H Q E h => ?_) (fun cdv A outer s H vs Q E hr h => ?_)
  · obtain ⟨j, m, n, rfl, _⟩ := h
    rfl
  · obtain ⟨j, m, n, rfl, hj, ⟨h1, h2⟩, k⟩ := h
    refine ⟨_, (pss_cons (ps_set (i := 2) sc__law_small.nd rfl (by first | exact Or.inl rfl | exact Or.inr rfl) (pe_lc (own := [("turn", 7)]) (tt := tYes) (te := (tOp (rI0 fun i j => .int (i - j)) (tCall (sp__law_dip K) [] E0 (tCons (tVar 0) (tCons (tC (.int 6)) tNil))) (tC (.int 1)))) rfl sc__law_small.nd (pi_range1 (by rfl) (T.fr 29) (pa_cons (pe_op op_add pe_int (pe_f (k__law_dip T) hr (pa_cons (pv 0) (pa_cons (pv 1) pa_nil)))) pa_nil)) (blkOk_by (N := ["jar", "longest", "drawn", "lows", "highs", "leasts", "mosts", "turn", "entry"]) (sc := defScope s__law_small) (by decide +kernel)) (fun _ _ _ _ _ => (pg_name (i := 7) sc__law_small.nd rfl (by first | exact Or.inl rfl | exact Or.inr rfl))) (fun _ _ _ _ _ => pts_nil) (fun _ _ _ _ _ => (pe_op op_sub (pe_f (k__law_dip T) hr (pa_cons (pv 0) (pa_cons pe_int pa_nil))) pe_int))))
      (pss_cons (ps_asg (pe_f (k__law_around T) hr (pa_cons (pv 0) (pa_cons (pv 2) (pa_cons (pe_ix ix_list (pe_lst (pa_cons pe_int (pa_cons pe_int (pa_cons pe_int pa_nil)))) (pe_f (k__law_dip T) hr (pa_cons (pv 0) (pa_cons pe_int pa_nil))) (fun _ _ => rfl)) pa_nil)))) (pg_tup rfl (pgs_cons (pg_name (i := 3) sc__law_small.nd rfl (by first | exact Or.inl rfl | exact Or.inr rfl)) (pgs_cons (pg_name (i := 4) sc__law_small.nd rfl (by first | exact Or.inl rfl | exact Or.inr rfl)) (pgs_cons (pg_name (i := 5) sc__law_small.nd rfl (by first | exact Or.inl rfl | exact Or.inr rfl)) (pgs_cons (pg_name (i := 6) sc__law_small.nd rfl (by first | exact Or.inl rfl | exact Or.inr rfl)) pgs_nil))))))
      (pss_cons (ps_if (pt_cmpR op_eq (pe_f (k__law_dip T) hr (pa_cons (pv 0) (pa_cons pe_int pa_nil))) pe_int (nomark _)) (pss_one (ps_par (i := 5) (j := 6) (by rfl) sc__law_small.nd rfl rfl (by decide) rfl rfl (pa_cons (pe_lc (own := [("entry", 8)]) (tt := tYes) (te := (tOp (rI0 fun i j => .int (i - j)) (tCB (rMin K) (tCons (tVar 2) tNil)) (tC (.int 1)))) rfl sc__law_small.nd (pi_list (pv 2)) (blkOk_by (N := ["jar", "longest", "drawn", "lows", "highs", "leasts", "mosts", "turn", "entry"]) (sc := defScope s__law_small) (by decide +kernel)) (fun _ _ _ _ _ => (pg_name (i := 8) sc__law_small.nd rfl (by first | exact Or.inl rfl | exact Or.inr rfl))) (fun _ _ _ _ _ => pts_nil) (fun _ _ _ _ _ => (pe_op op_sub (pe_callB (cr_min rfl) (by rfl) (T.fr 28) (by decide +kernel) (pa_cons (pv 2) pa_nil)) pe_int))) (pa_cons (pe_lc (own := [("entry", 8)]) (tt := tYes) (te := (tOp (rI0 fun i j => .int (i + j)) (tCB (rMax K) (tCons (tVar 2) tNil)) (tC (.int 1)))) rfl sc__law_small.nd (pi_list (pv 2)) (blkOk_by (N := ["jar", "longest", "drawn", "lows", "highs", "leasts", "mosts", "turn", "entry"]) (sc := defScope s__law_small) (by decide +kernel)) (fun _ _ _ _ _ => (pg_name (i := 8) sc__law_small.nd rfl (by first | exact Or.inl rfl | exact Or.inr rfl))) (fun _ _ _ _ _ => pts_nil) (fun _ _ _ _ _ => (pe_op op_add (pe_callB (cr_max rfl) (by rfl) (T.fr 23) (by decide +kernel) (pa_cons (pv 2) pa_nil)) pe_int))) pa_nil)) (by rfl))) pss_nil)
      (pss_one (ps_ret (pe_tup (pa_cons (pv 3) (pa_cons (pv 4) (pa_cons (pv 5) (pa_cons (pv 6) pa_nil)))))))))), ?_⟩
    walk_at "ev0"
    refine ⟨j, m, n + 999, rfl, hj.le (by omega), by omega, by omega, fun v H1 v0 v1 f1 q1 => ?_⟩
    have z1 := (ZJ.start hj).dips f1 q1
    walk_at "ev"
    refine ⟨by omega, by omega, ?_⟩
    refine lc_draw (fun x => -1 ≤ x ∧ x ≤ 4) (n := (1 + v).toNat) (c := 1) (m := n + 890) walk_range (by omega) (z1.le (by omega)) (fun i H' D ns R hi hl z kR => ?_) (fun dr ns H2 hl pp z2 => ?_)
    · walk_at "ev"
      refine ⟨rfl, ?_⟩
      walk_at "ev"
      refine ⟨j, 6, n + 890 + 1 * ((1 + v).toNat - i) - 1, rfl, z.jar.le (by omega), by decide, by decide, fun x G x0 x1 f q => ?_⟩
      walk_at "ev"
      exact kR _ _ ⟨by omega, by omega⟩ ((z.dips f q).le (by omega))
    have hl' : 1 ≤ ns.length ∧ (ns.length : Int) ≤ m := by omega
    walk_at "ev"
    intro t3 k3
    have z3 := z2.alloc (.lst [.int 2, .int 3, .int 4]) k3
    walk_at "ev"
    refine ⟨j, 3, n + 889, rfl, z3.jar.le (by omega), by decide, by decide, fun x H4 x0 x1 f4 q4 => ?_⟩
    have z4 := z3.dips f4 q4
    obtain ⟨wd, ew, hw⟩ := three (a := 2) (b := 3) (c := 4) x0 x1
    walk_at "ev"
    refine r_at ew ?_
    walk_at "ev"
    refine ⟨j, dr, ns, wd, n + 80, rfl, ⟨z4.get (.tail _ (.head _)), z4.ne _ (.tail _ (.head _))⟩, z4.jar.le (by omega), by omega, by omega, (fun x hx => ⟨by have := pp x hx; omega, by have := pp x hx; omega⟩), fun t l1 l2 l3 l4 d H5 f5 q5 w5 r5 _ => ?_⟩
    have z5 := z4.call f5 q5 w5
    simp only [List.map_cons, List.map_nil, List.cons_append, List.nil_append] at z5
    walk_at "ev"
    refine ⟨j, 3, n + 79, rfl, z5.jar.le (by omega), by decide, by decide, fun x H6 x0 x1 f6 q6 => ?_⟩
    have z6 := z5.dips f6 q6
    walk_at "ev"
    refine r_ite (fun _ => ?_) (fun _ => ?_)
    · obtain ⟨mn, mn1, mn2⟩ := min_ex (ns := ns) (by omega)
      obtain ⟨mx, mx1, mx2⟩ := max_ex (ns := ns) (by omega)
      have hdr : SqL K H6 dr (ns.map V.int) := SqL.of (z6.get (.tail _ (.tail _ (.tail _ (.tail _ (.tail _ (.tail _ (.head _))))))))
      walk_at "ev"
      refine lc_const (ns := ns) (mn - 1) hdr (by omega) (fun _ => rfl) (fun x H' R e kR => ?_) (fun D7 H7 hD e hD' => ?_)
      · walk_at "ev"
        refine r_minM (e.sql hdr (fun z => nomatch z)) mn1 mn2 ?_
        walk_at "ev"
        exact kR _ (Fr.refl _)
      have z7 := z6.comp e hD hD'
      have hdr7 := e.sql hdr (fun z => nomatch z)
      clear hD hD' e
      walk_at "ev"
      refine lc_const (ns := ns) (mx + 1) hdr7 (by omega) (fun _ => rfl) (fun x H' R e kR => ?_) (fun D8 H8 hD e hD' => ?_)
      · walk_at "ev"
        refine r_maxM (e.sql hdr7 (fun z => nomatch z)) mx1 mx2 ?_
        walk_at "ev"
        exact kR _ (Fr.refl _)
      have z8 := z7.comp e hD hD'
      clear hD hD' e
      walk_at "ev"
      intro t9 k9
      have z9 := z8.alloc (.tup [.ref l1, .ref l2, .ref D7, .ref D8]) k9
      refine k t9 l1 l2 D7 D8 ⟨d.L, d.U, ns.map fun _ => mn - 1, ns.map fun _ => mx + 1⟩ ns _ z9.fr (z9.jar.le (by omega)) (z9.pick [0, 4, 5, 2, 1] rfl) (r5.with (by simp) (by simp) (fun i hi => ?_) (fun i hi => ?_) (fun i hi => ?_)) hl'
      · rw [nth_const hi]
        have := mn2 _ (nth_mem hi)
        omega
      · rw [nth_const hi]
        have := mx2 _ (nth_mem hi)
        omega
      · rw [nth_const hi, nth_const hi]
        have := pp _ mn1
        have := pp _ mx1
        omega
    · walk_at "ev"
      intro t9 k9
      have z9 := z6.alloc (.tup [.ref l1, .ref l2, .ref l3, .ref l4]) k9
      exact k t9 l1 l2 l3 l4 d ns _ z9.fr (z9.jar.le (by omega)) (z9.pick [0, 2, 3, 4, 5] rfl) r5 hl'
end
set_option Elab.async false
set_option linter.all false
set_option maxRecDepth 100000
set_option maxHeartbeats 4000000
set_option exponentiation.threshold 2000

theorem atN {ns : List Int} {i : Nat} (h : i < ns.length) : atI (ns.map V.int) (i : Int) = some (.int (nth ns i)) := atI_nat (at_nth h)
theorem ixN_at {n i : Nat} (h : i < n) : ixN n (i : Int) = some i := by
  unfold ixN
  rw [if_pos (by omega), if_pos (by omega)]
  rfl
theorem sel_mem {E : List En} : ∀ (is : List Nat) (N : List En), is.map (fun i => E[i]?) = N.map some → ∀ q ∈ N, ∃ i ∈ is, E[i]? = some q
  | [], [], _, q, hq => nomatch hq
  | [], _ :: _, e, _, _ => by cases e
  | _ :: _, [], e, _, _ => by cases e
  | i :: is, p :: N, e, q, hq => by
    rw [List.map_cons, List.map_cons, List.cons.injEq] at e
    rcases List.mem_cons.mp hq with rfl | hq
    · exact ⟨i, List.mem_cons_self, e.1⟩
    · obtain ⟨k, hk, h⟩ := sel_mem is N e.2 q hq
      exact ⟨k, List.mem_cons_of_mem _ hk, h⟩
theorem sel_nd {H0 H : Hp} {j : Addr} {n : Nat} {E : List En} (z : ZJ H0 H j n E) : ∀ (is : List Nat) (N : List En), is.Nodup → is.map (fun i => E[i]?) = N.map some → (N.map (·.2.1)).Nodup
  | [], [], _, _ => List.nodup_nil
  | [], _ :: _, _, e => by cases e
  | _ :: _, [], _, e => by cases e
  | i :: is, p :: N, nd, e => by
    rw [List.map_cons, List.map_cons, List.cons.injEq] at e
    rw [List.nodup_cons] at nd
    rw [List.map_cons, List.nodup_cons]
    refine ⟨fun m => ?_, sel_nd z is N nd.2 e.2⟩
    obtain ⟨q, hq, e1⟩ := List.mem_map.mp m
    obtain ⟨k, hk, h⟩ := sel_mem is N e.2 q hq
    exact z.other e.1 h (fun x => nd.1 (x ▸ hk)) e1
/-- what is known, told anew by places -/
theorem ZJ.sel {H0 H : Hp} {j : Addr} {n : Nat} {E E' : List En} (z : ZJ H0 H j n E) (is : List Nat) (e : is.map (fun i => E[i]?) = E'.map some) (nd : is.Nodup := by decide) : ZJ H0 H j n E' := by
  have m : ∀ q ∈ E', q ∈ E := fun q hq => by
    obtain ⟨i, _, h⟩ := sel_mem is E' e q hq
    exact List.mem_of_getElem? h
  exact ⟨z.jar, sel_nd z is E' nd e, fun q hq => z.at_ q (m q hq), fun q hq => z.ne q (m q hq), fun q hq => z.two q (m q hq), fun q hq => z.fresh q (m q hq), z.fr⟩
theorem four {a b c d : Int} {v : Int} (h0 : 0 ≤ v) (h1 : v < 4) : ∃ x, atI [V.int a, V.int b, V.int c, V.int d] v = some (.int x) ∧ (x = a ∨ x = b ∨ x = c ∨ x = d) := by
  rcases (show v = 0 ∨ v = 1 ∨ v = 2 ∨ v = 3 by omega) with rfl | rfl | rfl | rfl
  · exact ⟨a, rfl, .inl rfl⟩
  · exact ⟨b, rfl, .inr (.inl rfl)⟩
  · exact ⟨c, rfl, .inr (.inr (.inl rfl))⟩
  · exact ⟨d, rfl, .inr (.inr (.inr rfl))⟩
section
variable {P : Program} {w : World} {K : PySem.W.Frag} {mg : Str → Option Value} {base : Heap}
def sp__law_great (K : PySem.W.Frag) : Sp := fun vs H Q _ => ∃ (j : Addr) (m : Int) (n : Nat), vs = [.ref j, .int m] ∧ JarAt H j (n + 2000) ∧ (2 ≤ m ∧ m ≤ 100) ∧
  ∀ t l1 l2 l3 l4 d ns H', Fr [j] H H' → JarAt H' j n → New H H' (rawN t l1 l2 l3 l4 d) → RawOk ns d → (2 ≤ ns.length ∧ (ns.length : Int) ≤ m) → Q (.ref t) H'
theorem k__law_great (T : Tx fa fn K mg base) : Fk P w K mg base "_law_great" ["jar", "longest"] 3 (sp__law_great K) s__law_great "_law_great" := by
  refine T.fk 16 31 (q := "_law_great") (st := s__law_great) sc__law_great (fun _ _ _ _ _ _ us hl => match us, hl with | [_, _], _ => rfl) (fun vs H Q E h => ?_) (fun cdv A outer s H vs Q E hr h => ?_)
  · obtain ⟨j, m, n, rfl, _⟩ := h
    rfl
  · obtain ⟨j, m, n, rfl, hj, ⟨h1, h2⟩, k⟩ := h
    refine ⟨_, (pss_cons (ps_asg (pe_tup (pa_cons (pe_ix ix_list (pe_lst (pa_cons pe_int (pa_cons (pe_op op_powW pe_int pe_int) (pa_cons (pe_op op_powW pe_int pe_int) pa_nil)))) (pe_f (k__law_dip T) hr (pa_cons (pv 0) (pa_cons pe_int pa_nil))) (fun _ _ => rfl)) (pa_cons (pe_lst pa_nil) pa_nil))) (pg_tup rfl (pgs_cons (pg_name (i := 2) sc__law_great.nd rfl (by first | exact Or.inl rfl | exact Or.inr rfl)) (pgs_cons (pg_name (i := 3) sc__law_great.nd rfl (by first | exact Or.inl rfl | exact Or.inr rfl)) pgs_nil))))
      (pss_cons (ps_for PassesOwn.never rfl (pi_range1 (by rfl) (T.fr 29) (pa_cons (pe_op op_add pe_int (pe_f (k__law_dip T) hr (pa_cons (pv 0) (pa_cons (pe_op op_sub (pv 1) pe_int) pa_nil)))) pa_nil)) (pg_name (i := 4) sc__law_great.nd rfl (by first | exact Or.inl rfl | exact Or.inr rfl)) (pss_cons (ps_set (i := 5) sc__law_great.nd rfl (by first | exact Or.inl rfl | exact Or.inr rfl) (pe_lst (pa_cons (pe_f (k__law_dip T) hr (pa_cons (pv 0) (pa_cons (pv 2) pa_nil))) (pa_cons (pe_op op_fdivW (pv 2) pe_int) (pa_cons (pe_op op_sub (pe_f (k__law_dip T) hr (pa_cons (pv 0) (pa_cons pe_int pa_nil))) pe_int) (pa_cons (pe_op op_sub pe_int (pe_f (k__law_dip T) hr (pa_cons (pv 0) (pa_cons (pv 2) pa_nil)))) pa_nil))))))
      (pss_one (ps_expr (pe_bm PySem.F.plainAttrs_list PySem.F.slot_list_append PySem.F.type_list_append mt_append (pv 3) (pa_cons (pe_ix ix_list (pv 5) (pe_f (k__law_dip T) hr (pa_cons (pv 0) (pa_cons pe_int pa_nil))) (fun _ _ => rfl)) pa_nil))))))
      (pss_cons (ps_asg (pe_f (k__law_around T) hr (pa_cons (pv 0) (pa_cons (pv 3) (pa_cons (pe_ix ix_list (pe_lst (pa_cons pe_int (pa_cons (pe_op op_add pe_int (pe_op op_fdivW (pv 2) pe_int)) (pa_cons (pe_op op_mulW pe_int (pv 2)) pa_nil)))) (pe_f (k__law_dip T) hr (pa_cons (pv 0) (pa_cons pe_int pa_nil))) (fun _ _ => rfl)) pa_nil)))) (pg_tup rfl (pgs_cons (pg_name (i := 6) sc__law_great.nd rfl (by first | exact Or.inl rfl | exact Or.inr rfl)) (pgs_cons (pg_name (i := 7) sc__law_great.nd rfl (by first | exact Or.inl rfl | exact Or.inr rfl)) (pgs_cons (pg_name (i := 8) sc__law_great.nd rfl (by first | exact Or.inl rfl | exact Or.inr rfl)) (pgs_cons (pg_name (i := 9) sc__law_great.nd rfl (by first | exact Or.inl rfl | exact Or.inr rfl)) pgs_nil))))))
      (Evl.pss_cut (ps_if (pt_cmpR op_gt (pe_f (k__law_dip T) hr (pa_cons (pv 0) (pa_cons pe_int pa_nil))) pe_int (nomark _)) (pss_one (ps_par (i := 8) (j := 9) (by rfl) sc__law_great.nd rfl rfl (by decide) rfl rfl (pa_cons (pe_lc (own := [("entry", 11)]) (tt := tYes) (te := (tOp (rI0 fun i j => .int (i - j)) (tVar 11) (tOp (rI CMulW fun i j => .int (i * j)) (tC (.int 2)) (tVar 2)))) rfl sc__law_great.nd (pi_list (pv 3)) (blkOk_by (N := ["jar", "longest", "size", "drawn", "turn", "some", "lows", "highs", "leasts", "mosts", "spot", "entry"]) (sc := defScope s__law_great) (by decide +kernel)) (fun _ _ _ _ _ => (pg_name (i := 11) sc__law_great.nd rfl (by first | exact Or.inl rfl | exact Or.inr rfl))) (fun _ _ _ _ _ => pts_nil) (fun _ _ _ _ _ => (pe_op op_sub (pv 11) (pe_op op_mulW pe_int (pv 2))))) (pa_cons (pe_lc (own := [("entry", 11)]) (tt := tYes) (te := (tOp (rI0 fun i j => .int (i + j)) (tVar 11) (tOp (rI CMulW fun i j => .int (i * j)) (tC (.int 2)) (tVar 2)))) rfl sc__law_great.nd (pi_list (pv 3)) (blkOk_by (N := ["jar", "longest", "size", "drawn", "turn", "some", "lows", "highs", "leasts", "mosts", "spot", "entry"]) (sc := defScope s__law_great) (by decide +kernel)) (fun _ _ _ _ _ => (pg_name (i := 11) sc__law_great.nd rfl (by first | exact Or.inl rfl | exact Or.inr rfl))) (fun _ _ _ _ _ => pts_nil) (fun _ _ _ _ _ => (pe_op op_add (pv 11) (pe_op op_mulW pe_int (pv 2))))) pa_nil)) (by rfl))) pss_nil)
      (pss_cons (ps_for PassesOwn.never rfl (pi_range1 (by rfl) (T.fr 29) (pa_cons (pe_op op_sub (pe_callB call_len_seq (by rfl) (T.fr 5) (by decide +kernel) (pa_cons (pv 3) pa_nil)) pe_int) pa_nil)) (pg_name (i := 10) sc__law_great.nd rfl (by first | exact Or.inl rfl | exact Or.inr rfl)) (pss_one (ps_if (pt_cmpR op_eq (pe_f (k__law_dip T) hr (pa_cons (pv 0) (pa_cons pe_int pa_nil))) pe_int (nomark _)) (pss_cons (ps_asg (pe_op op_sub (pe_ix ix_list (pv 6) (pv 10) (fun _ _ => rfl)) (pe_f (k__law_dip T) hr (pa_cons (pv 0) (pa_cons (pe_op op_mulW pe_int (pv 2)) pa_nil)))) (pg_sub (pv 6) (pv 10) set_list))
      (pss_one (ps_asg (pe_op op_add (pe_ix ix_list (pv 7) (pv 10) (fun _ _ => rfl)) (pe_f (k__law_dip T) hr (pa_cons (pv 0) (pa_cons (pe_op op_mulW pe_int (pv 2)) pa_nil)))) (pg_sub (pv 7) (pv 10) set_list)))) pss_nil)))
      (pss_one (ps_ret (pe_tup (pa_cons (pv 6) (pa_cons (pv 7) (pa_cons (pv 8) (pa_cons (pv 9) pa_nil)))))))))))), ?_⟩
    walk_at "ev0"
    intro t1 k1
    have z1 := (ZJ.start hj).alloc (.lst [.int 4, .int (10 ^ Int.toNat 6), .int (10 ^ Int.toNat 25)]) k1
    walk_at "ev"
    refine ⟨j, 3, n + 1999, rfl, z1.jar.le (by omega), by decide, by decide, fun x H2 x0 x1 f q => ?_⟩
    have z2 := z1.dips f q
    obtain ⟨sz, es, hs⟩ := three (a := 4) (b := 10 ^ Int.toNat 6) (c := 10 ^ Int.toNat 25) x0 x1
    have hsz : 4 ≤ sz ∧ sz < 2 ^ 100 := by
      rcases hs with rfl | rfl | rfl
      · decide
      · decide +kernel
      · decide +kernel
    clear hs
    walk_at "ev"
    refine r_at es ?_
    walk_at "ev"
    intro t3 k3
    have z3 := z2.alloc (.lst []) k3
    walk_at "ev"
    intro t4 k4
    have z4 := z3.alloc (.tup [.int sz, .ref t3]) k4
    walk_at "ev"
    refine ⟨j, m - 1, n + 1998, rfl, z4.jar.le (by omega), by omega, by omega, fun v H5 v0 v1 f5 q5 => ?_⟩
    have z5 := (z4.dips f5 q5).sub (E' := [(2, t3, .lst [])]) (.cons _ (.cons₂ _ (List.nil_sublist _)))
    walk_at "ev"
    refine ⟨by omega, by omega, ?_⟩
    refine for_it (walk_range (lo := 0) (n := (2 + v).toNat)) (fun i σ H' => ∃ (ns : List Int) (u1 u2 : Option V), σ = [some (.ref j), some (.int m), some (.int sz), some (.ref t3), u1, u2, none, none, none, none, none, none] ∧
      ZJ H H' j (n + 1500 + 4 * ((2 + v).toNat - i)) [(2, t3, .lst (ns.map V.int))] ∧ ns.length = i ∧ ∀ x ∈ ns, -(2 ^ 110) ≤ x ∧ x ≤ 2 ^ 110) ⟨[], none, none, rfl, z5.le (by omega), rfl, fun _ m => nomatch m⟩ (fun _ _ _ _ _ => trivial) (fun i x σ H' H'' hi p y => ?_) (fun σ H6 p => ?_)
    · obtain ⟨ns, u1, u2, rfl, z, hl, pp⟩ := p
      obtain ⟨rfl, rfl⟩ := y
      walk_at "ev"
      refine ⟨j, sz, n + 1500 + 4 * ((2 + v).toNat - i) - 1, rfl, z.jar.le (by omega), by omega, by omega, fun y1 G1 a1 b1 f1 q1 => ?_⟩
      have w1 := z.dips f1 q1
      walk_at "ev"
      refine r_I (wide_div (b := 4) (by decide) (by decide) (by decide) (by decide)) ?_
      walk_at "ev"
      refine ⟨j, 3, n + 1500 + 4 * ((2 + v).toNat - i) - 2, rfl, w1.jar.le (by omega), by decide, by decide, fun y2 G2 a2 b2 f2 q2 => ?_⟩
      have w2 := w1.dips f2 q2
      walk_at "ev"
      refine ⟨j, sz, n + 1500 + 4 * ((2 + v).toNat - i) - 3, rfl, w2.jar.le (by omega), by omega, by omega, fun y3 G3 a3 b3 f3 q3 => ?_⟩
      have w3 := w2.dips f3 q3
      walk_at "ev"
      intro s1 kk1
      have w4 := w3.alloc (.lst [.int y1, .int (sz / 2), .int (y2 - 1), .int (0 - y3)]) kk1
      walk_at "ev"
      refine ⟨j, 4, n + 1500 + 4 * ((2 + v).toNat - i) - 4, rfl, w4.jar.le (by omega), by decide, by decide, fun y4 G5 a4 b4 f5 q5 => ?_⟩
      have w5 := w4.dips f5 q5
      obtain ⟨it, eit, hit⟩ := four (a := y1) (b := sz / 2) (c := y2 - 1) (d := 0 - y3) a4 b4
      walk_at "ev"
      refine r_at eit ?_
      walk_at "ev"
      have w6 := w5.set 1 (.lst (ns.map V.int ++ [.int it])) rfl
      have big : (2 : Int) ^ 100 ≤ 2 ^ 110 := by decide +kernel
      have hit : -(2 ^ 110) ≤ it ∧ it ≤ 2 ^ 110 := by
        have := Int.ediv_le_self 2 (show 0 ≤ sz by omega)
        have := Int.ediv_nonneg (show 0 ≤ sz by omega) (show (0 : Int) ≤ 2 by decide)
        rcases hit with rfl | rfl | rfl | rfl <;> omega
      refine ⟨ns ++ [it], _, _, rfl, ?_, by rw [List.length_append, hl] <;> rfl, fun y hy => (List.mem_append.mp hy).elim (pp y) fun h => (List.mem_singleton.mp h) ▸ hit⟩
      rw [List.map_append]
      exact (w6.sub (.cons _ (List.Sublist.refl _))).le (by omega)
    obtain ⟨ns, u1, u2, rfl, z6, hl, pp⟩ := p
    have hl' : 2 ≤ ns.length ∧ (ns.length : Int) ≤ m := by omega
    walk_at "ev"
    refine r_I (wide_div (b := 4) (by decide) (by decide) (by decide) (by decide)) ?_
    walk_at "ev"
    refine r_I (wide_mul (a := 4) (b := 100) (by decide) (natAbs_lt (by omega) (by omega)) (by decide) (by decide) (by decide)) ?_
    walk_at "ev"
    intro t7 k7
    have z7 := z6.alloc (.lst [.int 3, .int (1 + sz / 3), .int (2 * sz)]) k7
    walk_at "ev"
    refine ⟨j, 3, n + 1400, rfl, z7.jar.le (by omega), by decide, by decide, fun x H8 x0 x1 f8 q8 => ?_⟩
    have z8 := z7.dips f8 q8
    obtain ⟨wd, ew, hw⟩ := three (a := 3) (b := 1 + sz / 3) (c := 2 * sz) x0 x1
    walk_at "ev"
    refine r_at ew ?_
    walk_at "ev"
    have hwd : 0 < wd ∧ wd < 2 ^ 150 := by
      have : 4 * (2 : Int) ^ 100 < 2 ^ 150 := by decide +kernel
      rcases hw with rfl | rfl | rfl
      · decide
      · omega
      · omega
    refine ⟨j, t3, ns, wd, n + 900, rfl, ⟨z8.get (.tail _ (.head _)), z8.ne _ (.tail _ (.head _))⟩, z8.jar.le (by omega), by omega, hwd, pp, fun t l1 l2 l3 l4 d H9 f9 q9 w9 r9 nw => ?_⟩
    have z9 := z8.call f9 q9 w9
    simp only [List.map_cons, List.map_nil, List.cons_append, List.nil_append] at z9
    walk_at "ev"
    refine Evl.q_cut (M := fun σ' H' => ∃ (A B : List Int) (m3 m4 : Addr) (u1 u2 u3 : Option V), σ' = [some (.ref j), some (.int m), some (.int sz), some (.ref t3), u1, u2, some (.ref l1), some (.ref l2), some (.ref m3), some (.ref m4), none, u3] ∧
      ZJ H H' j (n + 899) [(2, l1, .lst (d.L.map V.int)), (2, l2, .lst (d.U.map V.int)), (2, m3, .lst (A.map V.int)), (2, m4, .lst (B.map V.int)), (2, t3, .lst (ns.map V.int))] ∧ RawOk ns ⟨d.L, d.U, A, B⟩) ?_ ?_
    · walk_at "ev"
      refine ⟨j, 3, n + 899, rfl, z9.jar.le (by omega), by decide, by decide, fun x H10 x0 x1 f10 q10 => ?_⟩
      have z10 := z9.dips f10 q10
      walk_at "ev"
      refine r_ite (fun _ => ?_) (fun _ => ?_)
      · have hdr : SqL K H10 t3 (ns.map V.int) := SqL.of (z10.get (.tail _ (.tail _ (.tail _ (.tail _ (.tail _ (.tail _ (.head _))))))))
        have cm : CMulW 2 sz := wide_mul (a := 4) (b := 100) (by decide) (natAbs_lt (by omega) (by omega)) (by decide) (by decide) (by decide)
        walk_at "ev"
        refine lc_map (ns := ns) (fun y => y - 2 * sz) hdr (by omega) (fun _ => rfl) (fun i H' R hi e kR => ?_) (fun D11 H11 hD e hD' => ?_)
        · walk_at "ev"
          refine r_I cm ?_
          walk_at "ev"
          exact kR _ (Fr.refl _)
        have z11 := z10.comp e hD hD'
        have hdr11 := e.sql hdr (fun z => nomatch z)
        clear hD hD' e
        walk_at "ev"
        refine lc_map (ns := ns) (fun y => y + 2 * sz) hdr11 (by omega) (fun _ => rfl) (fun i H' R hi e kR => ?_) (fun D12 H12 hD e hD' => ?_)
        · walk_at "ev"
          refine r_I cm ?_
          walk_at "ev"
          exact kR _ (Fr.refl _)
        have z12 := z11.comp e hD hD'
        clear hD hD' e
        walk_at "ev"
        have v9 : ∀ i, i < ns.length → nth (ns.map fun y => y + 2 * sz) i - nth (ns.map fun y => y - 2 * sz) i ≤ 2 ^ 160 := fun i hi => by
          have : (2 : Int) ^ 100 * 4 ≤ 2 ^ 160 := by decide +kernel
          rw [nth_map (g := fun y => y + 2 * sz) hi, nth_map (g := fun y => y - 2 * sz) hi]
          omega
        exact ⟨ns.map fun y => y - 2 * sz, ns.map fun y => y + 2 * sz, D11, D12, _, _, _, rfl, z12.sel [3, 4, 1, 0, 8] rfl, r9.with (by simp) (by simp) (fun i hi => by rw [nth_map hi]; omega) (fun i hi => by rw [nth_map hi]; omega) v9⟩
      · walk_at "ev"
        exact ⟨d.A, d.B, l3, l4, _, _, _, rfl, z10.sel [1, 2, 3, 4, 6] rfl, r9⟩
    · rintro σ' H10 ⟨A, B, m3, m4, u1, u2, u3, rfl, z10, r10⟩
      have hlen : (ns.map V.int).length = ns.length := List.length_map _
      walk_at "ev"
      refine ⟨by omega, by omega, ?_⟩
      refine for_it (walk_range (lo := 0) (n := (((ns.map V.int).length : Int) - 1).toNat)) (fun i σ H' => ∃ (L U : List Int) (u4 : Option V), σ = [some (.ref j), some (.int m), some (.int sz), some (.ref t3), u1, u2, some (.ref l1), some (.ref l2), some (.ref m3), some (.ref m4), u4, u3] ∧
        ZJ H H' j (n + 3 * (ns.length - i)) [(2, l1, .lst (L.map V.int)), (2, l2, .lst (U.map V.int)), (2, m3, .lst (A.map V.int)), (2, m4, .lst (B.map V.int)), (2, t3, .lst (ns.map V.int))] ∧ RawOk ns ⟨L, U, A, B⟩ ∧ ∀ k, i ≤ k → k < ns.length → nth U k - nth L k ≤ 2 * wd) ⟨d.L, d.U, none, rfl, z10.le (by omega), r10, fun k _ => nw k⟩ (fun _ _ _ _ _ => trivial) (fun i x σ H' H'' hi p y => ?_) (fun σ H6 p => ?_)
      · obtain ⟨L, U, u4, rfl, z, r, nr⟩ := p
        obtain ⟨rfl, rfl⟩ := y
        have hi2 : i + 1 < ns.length := by omega
        have lL := r.lL
        have lU := r.lU
        dsimp only at lL lU
        have e0 : (0 : Int) + (i : Int) = (i : Int) := Int.zero_add _
        simp only [e0]
        have cm : CMulW 9 sz := wide_mul (a := 4) (b := 100) (by decide) (natAbs_lt (by omega) (by omega)) (by decide) (by decide) (by decide)
        walk_at "ev"
        refine ⟨j, 3, n + 3 * (ns.length - i) - 1, rfl, z.jar.le (by omega), by decide, by decide, fun y1 G1 a1 b1 f1 q1 => ?_⟩
        have w1 := z.dips f1 q1
        walk_at "ev"
        refine r_ite (fun _ => ?_) (fun _ => ?_)
        · walk_at "ev"
          refine r_at (atN (by omega)) ?_
          walk_at "ev"
          refine r_I cm ?_
          walk_at "ev"
          refine ⟨j, 9 * sz, n + 3 * (ns.length - i) - 2, rfl, w1.jar.le (by omega), by omega, by omega, fun y2 G2 a2 b2 f2 q2 => ?_⟩
          have w2 := w1.dips f2 q2
          walk_at "ev"
          refine r_ixn (ixN_at (by rw [List.length_map]; omega)) ?_
          have w3 := w2.set 0 (.lst ((L.map V.int).set i (.int (nth L i - y2)))) rfl
          walk_at "ev"
          refine r_at (atN (by omega)) ?_
          walk_at "ev"
          refine r_I cm ?_
          walk_at "ev"
          refine ⟨j, 9 * sz, n + 3 * (ns.length - i) - 3, rfl, w3.jar.le (by omega), by omega, by omega, fun y3 G3 a3 b3 f3 q3 => ?_⟩
          have w4 := w3.dips f3 q3
          walk_at "ev"
          refine r_ixn (ixN_at (by rw [List.length_map]; omega)) ?_
          have w5 := w4.set 1 (.lst ((U.map V.int).set i (.int (nth U i + y3)))) rfl
          refine ⟨L.set i (nth L i - y2), U.set i (nth U i + y3), _, rfl, ?_, ?_, fun k h1 h2 => (by rw [nth_set_ne (by omega), nth_set_ne (by omega)]; exact nr k (by omega) h2)⟩
          · rw [List.map_set, List.map_set]
            exact w5.le (by omega)
          · refine ⟨by simp [lL], by simp [lU], r.lA, r.lB, fun k hk => ?_, fun k hk => ?_, r.a, r.b, ?_, ?_, fun k hk => ?_, r.v, r.e⟩
            · have h := r.l k hk
              dsimp only at h ⊢
              by_cases e : k = i
              · subst e
                rw [nth_set_at (by omega)]
                omega
              · rw [nth_set_ne e]
                exact h
            · have h := r.u k hk
              dsimp only at h ⊢
              by_cases e : k = i
              · subst e
                rw [nth_set_at (by omega)]
                omega
              · rw [nth_set_ne e]
                exact h
            · have h := r.tL
              dsimp only at h ⊢
              rw [nth_set_ne (by omega)]
              exact h
            · have h := r.tU
              dsimp only at h ⊢
              rw [nth_set_ne (by omega)]
              exact h
            · have h := r.w k hk
              dsimp only at h ⊢
              by_cases e : k = i
              · subst e
                rw [nth_set_at (by omega), nth_set_at (by omega)]
                have := nr k (Nat.le_refl _) hk
                have : (2 : Int) ^ 100 * 100 + 2 * 2 ^ 150 ≤ 2 ^ 160 := by decide +kernel
                omega
              · rw [nth_set_ne e, nth_set_ne e]
                exact h
        · walk_at "ev"
          exact ⟨L, U, _, rfl, w1.le (by omega), r, fun k h1 h2 => nr k (by omega) h2⟩
      · obtain ⟨L, U, u4, rfl, z, r, nr⟩ := p
        walk_at "ev"
        intro t9 k9
        have z9 := z.alloc (.tup [.ref l1, .ref l2, .ref m3, .ref m4]) k9
        exact k t9 l1 l2 m3 m4 ⟨L, U, A, B⟩ ns _ z9.fr (z9.jar.le (by omega)) (z9.pick [0, 1, 2, 3, 4] rfl) r hl'
end
set_option Elab.async false
set_option linter.all false
set_option maxRecDepth 100000
set_option maxHeartbeats 4000000
set_option exponentiation.threshold 2000

/-- bounds lie at r as a tuple (b) or a list of four lists, apart from what J names -/
structure RawAt (J : List Addr) (H : Hp) (b : Bool) (r : Addr) (d : PD) : Prop where
  ex : ∃ l1 l2 l3 l4, (if b = true then H r = some (.tup [.ref l1, .ref l2, .ref l3, .ref l4]) else H r = some (.lst [.ref l1, .ref l2, .ref l3, .ref l4])) ∧
    (H l1 = some (.lst (d.L.map V.int)) ∧ H l2 = some (.lst (d.U.map V.int)) ∧ H l3 = some (.lst (d.A.map V.int)) ∧ H l4 = some (.lst (d.B.map V.int))) ∧ (r ∉ J ∧ l1 ∉ J ∧ l2 ∉ J ∧ l3 ∉ J ∧ l4 ∉ J)
theorem RawAt.mono {J : List Addr} {H H' : Hp} {b : Bool} {r : Addr} {d : PD} (h : RawAt J H b r d) (f : Fr J H H') : RawAt J H' b r d := by
  obtain ⟨l1, l2, l3, l4, h0, ⟨h1, h2, h3, h4⟩, n0, n1, n2, n3, n4⟩ := h.ex
  refine ⟨l1, l2, l3, l4, ?_, ⟨f _ _ n1 h1, f _ _ n2 h2, f _ _ n3 h3, f _ _ n4 h4⟩, n0, n1, n2, n3, n4⟩
  cases b with
  | true => exact f _ _ n0 h0
  | false => exact f _ _ n0 h0
theorem RawAt.nil {J : List Addr} {H : Hp} {b : Bool} {r : Addr} {d : PD} (h : RawAt J H b r d) : RawAt [] H b r d := by
  obtain ⟨l1, l2, l3, l4, h0, h1, _⟩ := h.ex
  exact ⟨l1, l2, l3, l4, h0, h1, (fun z => nomatch z), (fun z => nomatch z), (fun z => nomatch z), (fun z => nomatch z), fun z => nomatch z⟩
theorem New.raw {H H' : Hp} {t l1 l2 l3 l4 : Addr} {d : PD} (n : New H H' (rawN t l1 l2 l3 l4 d)) {J : List Addr} (hJ : ∀ j ∈ J, ∃ o, H j = some o) : RawAt J H' true t d := by
  have no : ∀ q ∈ rawN t l1 l2 l3 l4 d, q.1 ∉ J := fun q hq m => by
    obtain ⟨o, e⟩ := hJ _ m
    rw [n.2 q hq] at e
    cases e
  exact ⟨l1, l2, l3, l4, n.1.2 _ (.head _), ⟨n.1.2 _ (.tail _ (.head _)), n.1.2 _ (.tail _ (.tail _ (.head _))), n.1.2 _ (.tail _ (.tail _ (.tail _ (.head _)))), n.1.2 _ (.tail _ (.tail _ (.tail _ (.tail _ (.head _)))))⟩,
    no _ (.head _), no _ (.tail _ (.head _)), no _ (.tail _ (.tail _ (.head _))), no _ (.tail _ (.tail _ (.tail _ (.head _)))), no _ (.tail _ (.tail _ (.tail _ (.tail _ (.head _)))))⟩
section
variable {P : Program} {w : World} {K : PySem.W.Frag} {mg : Str → Option Value} {base : Heap}
def sp__law_heap (K : PySem.W.Frag) : Sp := fun vs H Q _ => ∃ (r : Addr) (b : Bool) (d : PD), vs = [.ref r] ∧ RawAt [] H b r d ∧ d.Ok ∧ ∀ p H', Fr [] H H' → NewP K H H' p d → Q (.ref p) H'
theorem k__law_heap (T : Tx fa fn K mg base) : Fk P w K mg base "_law_heap" ["raw"] 5 (sp__law_heap K) s__law_heap "_law_heap" := by
  refine T.fk 17 32 (q := "_law_heap") (st := s__law_heap) sc__law_heap (fun _ _ _ _ _ _ us hl => match us, hl with | [_], _ => rfl) (fun vs H Q E h => ?_) (fun cdv A outer s H vs Q E hr h => ?_)
  · obtain ⟨r, b, d, rfl, _⟩ := h
    rfl
  · obtain ⟨r, b, d, rfl, ra, ok, k⟩ := h
    obtain ⟨l1, l2, l3, l4, h0, ⟨h1, h2, h3, h4⟩, _⟩ := ra.ex
    refine ⟨_, (pss_one (ps_ret (pe_mk (k_Plan___init__ T) (T.glo 21) hr (pa_cons (pe_ix ix_seq (pv 0) pe_int (fun _ _ => rfl)) (pa_cons (pe_ix ix_seq (pv 0) pe_int (fun _ _ => rfl)) (pa_cons (pe_ix ix_seq (pv 0) pe_int (fun _ _ => rfl)) (pa_cons (pe_ix ix_seq (pv 0) pe_int (fun _ _ => rfl)) pa_nil))))))), ?_⟩
    cases b with
    | true =>
      have h0 : H r = some (.tup [.ref l1, .ref l2, .ref l3, .ref l4]) := h0
      walk_at "ev0"
      exact r_plan ok h1 h2 h3 h4 k
    | false =>
      have h0 : H r = some (.lst [.ref l1, .ref l2, .ref l3, .ref l4]) := h0
      walk_at "ev0"
      exact r_plan ok h1 h2 h3 h4 k
end
set_option Elab.async false
set_option linter.all false
set_option maxRecDepth 100000
set_option maxHeartbeats 4000000
set_option exponentiation.threshold 2000

/-- new bounds at r -/
def NewR (H H' : Hp) (b : Bool) (r : Addr) (d : PD) : Prop := ∀ J, (∀ j ∈ J, ∃ o, H j = some o) → RawAt J H' b r d
theorem rev_range (ns : List Int) : (List.range (ns.length - 1)).map (fun i => nth ns (ns.length - 2 - i)) = ns.dropLast.reverse := by
  refine List.ext_getElem (by simp) fun i h1 h2 => ?_
  have hi : i < ns.length - 1 := by simpa using h1
  rw [List.getElem_map, List.getElem_range, List.getElem_reverse, List.getElem_dropLast, getElem_nth]
  congr 1
  rw [List.length_dropLast]
  omega
theorem cut_end {ns : List Int} (h : 0 < ns.length) : cutV (ns.map V.int) (some (-1)) none = [.int (nth ns (ns.length - 1))] := by
  unfold cutV
  rw [show HT.sIx (ns.map V.int).length 0 (some (-1)) = ((-1 : Int) + ((ns.map V.int).length : Int)).toNat from rfl, HT.sIx_none, List.length_map, show ((-1 : Int) + (ns.length : Int)).toNat = ns.length - 1 by omega, show ns.length - (ns.length - 1) = 1 by omega]
  rw [List.drop_eq_getElem_cons (by rw [List.length_map]; omega), List.take_succ_cons, List.take_zero, List.getElem_map, getElem_nth]
theorem Z.away {H0 H : Hp} {E : List En} (z : Z H0 H E) {J : List Addr} {a : Addr} {o : HO} (m : (2, a, o) ∈ E) (hJ : ∀ j ∈ J, ∃ o, H0 j = some o) : a ∉ J := fun mj => by
  obtain ⟨o', e⟩ := hJ a mj
  rw [z.fresh (2, a, o) m rfl] at e
  cases e
set_option Elab.async false
set_option linter.all false
set_option maxRecDepth 100000
set_option maxHeartbeats 4000000
set_option exponentiation.threshold 2000
theorem nin {α : Type} {a : α} : a ∉ ([] : List α) := fun m => nomatch m
theorem Fr.drop {H H1 H2 : Hp} {p : Addr} (a : Fr [] H H1) (b : Fr [p] H1 H2) (h : H p = none) : Fr [] H H2 := fun x o hx e => b x o (fun m => by
  rw [List.mem_singleton.mp m, h] at e
  cases e) (a x o hx e)
/-- lists of lists of integers that lie -/
inductive LLAt (H : Hp) : List V → List (List Int) → Prop where
  | nil : LLAt H [] []
  | cons {a : Addr} {ns : List Int} {vs : List V} {r : List (List Int)} (h : H a = some (.lst (ns.map V.int))) (t : LLAt H vs r) : LLAt H (.ref a :: vs) (ns :: r)
abbrev llD (xs : List (List Int)) : PyData := .list (xs.map fun ns => .list (ns.map PyData.int))
theorem LLAt.dp {K : PySem.W.Frag} {H : Hp} {vs : List V} {r : List (List Int)} (h : LLAt H vs r) : DpAll K H vs (r.map fun ns => .list (ns.map PyData.int)) := by
  induction h with
  | nil => exact .nil
  | cons h _ ih => exact .cons (.lst (SqL.of h) (dpAll_ints _)) ih
theorem canLay_ll : ∀ r : List (List Int), PyData.canLayAll0 (r.map fun ns => .list (ns.map PyData.int)) = true
  | [] => rfl
  | n :: r => by
    rw [List.map_cons, PyData.canLayAll0, canLay_ll r, PyData.canLay0, canLay_ints]
    rfl
theorem r_eqLL {K : PySem.W.Frag} {H : Hp} {Q : VK} {a b : Addr} {vs us : List V} {xs ys : List (List Int)} (ha : H a = some (.lst vs)) (hb : H b = some (.lst us)) (hx : LLAt H vs xs) (hy : LLAt H us ys) (sx : SeqAt.shaped (llD xs) = true) (sy : SeqAt.shaped (llD ys) = true)
    (q : Q (.bl ((llD xs).eqv (llD ys))) H) : rEqD K (.ref a) (.ref b) H Q :=
  ⟨llD xs, llD ys, .lst (SqL.of ha) hx.dp, .lst (SqL.of hb) hy.dp, sx, sy, q⟩
section
variable {P : Program} {w : World} {K : PySem.W.Frag} {mg : Str → Option Value} {base : Heap}
theorem r_planA {H : Hp} {Q : Addr → Hp → Prop} {a1 a2 a3 a4 : Addr} {d : PD} (ok : d.Ok) (h1 : H a1 = some (.lst (d.L.map V.int))) (h2 : H a2 = some (.lst (d.U.map V.int))) (h3 : H a3 = some (.lst (d.A.map V.int))) (h4 : H a4 = some (.lst (d.B.map V.int)))
    (k : ∀ p H', Fr [] H H' → NewP K H H' p d → Q p H') : ∀ x dx, H x = none → H dx = none → dx ≠ x →
      sp_Plan___init__ K (.ref x :: ([.ref a1, .ref a2, .ref a3, .ref a4] ++ [])) (upd (upd H dx (.own x)) x (.ins (CP K) dx [])) (fun v H2 => v = .non ∧ Q x H2) E0 := by
  intro x dx hx hdx hne
  have h := r_plan (Q := fun v H2 => ∃ y, v = .ref y ∧ Q y H2) ok h1 h2 h3 h4 (fun p H' f n => ⟨p, rfl, k p H' f n⟩) x dx hx hdx hne
  have e : (fun (v : V) (H2 : Hp) => v = .non ∧ ∃ y, V.ref x = .ref y ∧ Q y H2) = fun v H2 => v = .non ∧ Q x H2 := by
    funext v H2
    simp
  exact e ▸ h
end
theorem atI_n0 {ns : List Int} {i : Nat} (h : i < ns.length) : atI (ns.map V.int) (0 + (i : Int)) = some (.int (nth ns i)) := by
  rw [Int.zero_add, atI_nth (by omega) (by omega)]
  rfl
theorem range_mapI (ns : List Int) (g : Int → Int) : ((List.range ns.length).map fun i => g (nth ns i)) = ns.map g := by
  rw [show (fun i => g (nth ns i)) = g ∘ nth ns from rfl, ← List.map_map, range_nth]
/-- new lists of integers, listed -/
theorem lc_lists {J : It} {n : Nat} {GG : Hp → Prop} {Y : Nat → Hp → V → Hp → Prop} {g : TG} {te : TE} {vs : List Nat} {σ : L2.St} {H1 : Hp} {Q : VK} (w : Walk J n GG Y) (f : Nat → List Int) (hn : n ≤ 1000) (hG : ∀ H', Fr [] H1 H' → GG H') (hY : ∀ i H' x H'', Y i H' x H'' → H'' = H')
    (he : ∀ i x H' (R : VK), i < n → Fr [] H1 H' → Y i H' x H' → (∀ p H4, Fr [] H' H4 → H' p = none → H4 p = some (.lst ((f i).map V.int)) → R (.ref p) H4) → g x (wipe σ vs) H' fun σ2 H2 => wipe σ2 vs = wipe σ vs ∧ te σ2 H2 R)
    (hd : ∀ (D : Addr) (M : List (Addr × List Int)) H', M.map Prod.snd = ((List.range n).map f).reverse → Z H1 H' ((2, D, .lst (M.reverse.map fun q => .ref q.1)) :: M.map fun q => ((2, q.1, .lst (q.2.map V.int)) : En)) → Q (.ref D) H') : LcJ g tYes te vs σ Q J H1 := by
  intro D hD
  refine lc_it w (fun i H' => i ≤ n ∧ ∃ M : List (Addr × List Int), M.map Prod.snd = ((List.range i).map f).reverse ∧ Z H1 H' ((2, D, .lst (M.reverse.map fun q => .ref q.1)) :: M.map fun q => ((2, q.1, .lst (q.2.map V.int)) : En)))
    ⟨Nat.zero_le _, [], rfl, (Z.start0 H1).alloc _ hD⟩ (fun i H' _ ⟨_, M, _, z⟩ => hG H' (z.fr0 ?_)) (fun i x H' H'' hi ⟨_, M, e, z⟩ y => ?_) (fun H' ⟨_, M, e, z⟩ => hd D M H' e z)
  · intro q hq
    rcases List.mem_cons.mp hq with rfl | hq
    · exact (by decide : (2 : Nat) ≠ 1)
    · obtain ⟨r, _, rfl⟩ := List.mem_map.mp hq
      exact (by decide : (2 : Nat) ≠ 1)
  obtain rfl := hY i H' x H'' y
  refine he i x H'' _ hi (z.fr0 ?_) y fun p H4 f4 hp h4 => ⟨M.reverse.map fun q => .ref q.1, f4 _ _ (fun m => nomatch m) (z.get (.head _)), ?_, hi, (p, f i) :: M, ?_, ?_⟩
  · intro q hq
    rcases List.mem_cons.mp hq with rfl | hq
    · exact (by decide : (2 : Nat) ≠ 1)
    · obtain ⟨r, _, rfl⟩ := List.mem_map.mp hq
      exact (by decide : (2 : Nat) ≠ 1)
  · have l := congrArg List.length e
    simp only [List.length_map, List.length_reverse, List.length_range] at l
    rw [List.length_map, List.length_reverse, l]
    exact Nat.lt_of_lt_of_le (show i < 1001 by omega) (by decide)
  · rw [List.map_cons, e, List.range_succ, List.map_append, List.reverse_append]
    rfl
  · have z2 := (z.comp f4 hp h4).set 1 (.lst ((M.reverse.map fun q => V.ref q.1) ++ [.ref p])) rfl (.inr rfl)
    refine Z.perm (E' := (2, D, .lst (((p, f i) :: M).reverse.map fun q => V.ref q.1)) :: (2, p, .lst ((f i).map V.int)) :: M.map fun q => ((2, q.1, .lst (q.2.map V.int)) : En)) z2 ?_
    rw [List.reverse_cons, List.map_append]
    exact List.Perm.swap ..
def catA {α : Type} (us ws : List α) : List α := us ++ ws
theorem kr_by {vs : List V} {us : List Value} {zs : List V} {ws : List Value} (h1 : Vals vs us) (h2 : Vals zs ws) (_ : zs.length = ["by"].length) (_ : vs.length = 1) : Vals (catA vs zs) (catA us ws) := h1.append h2
set_option Elab.async false
set_option linter.all false
set_option maxRecDepth 100000
set_option maxHeartbeats 4000000
set_option exponentiation.threshold 2000

/-! ## how great the numbers are, how long their texts -/
def Sm (x : Int) : Prop := -(2 ^ 180) ≤ x ∧ x ≤ 2 ^ 180
structure PD.Sm (d : PD) : Prop where
  l : ∀ x ∈ d.L, Ev.Sm x
  u : ∀ x ∈ d.U, Ev.Sm x
  a : ∀ x ∈ d.A, Ev.Sm x
  b : ∀ x ∈ d.B, Ev.Sm x
theorem sum_small {M : Int} : ∀ {l : List Int}, (∀ x ∈ l, -M ≤ x ∧ x ≤ M) → -((l.length : Int) * M) ≤ l.sum ∧ l.sum ≤ (l.length : Int) * M
  | [], _ => by simp
  | x :: r, h => by
    have := sum_small (l := r) fun y hy => h y (.tail _ hy)
    have := h x (.head _)
    rw [List.sum_cons, List.length_cons, show ((r.length + 1 : Nat) : Int) * M = (r.length : Int) * M + M by rw [Int.natCast_add, Int.add_mul]; simp]
    omega
theorem mem_nth {ns : List Int} {x : Int} (h : x ∈ ns) : ∃ i, i < ns.length ∧ nth ns i = x := by
  obtain ⟨i, hi, e⟩ := List.mem_iff_getElem.mp h
  exact ⟨i, hi, by rw [← getElem_nth hi]; exact e⟩
theorem RawOk.sm {ns : List Int} {d : PD} (r : RawOk ns d) (hn : ns.length ≤ 200) : d.Sm := by
  have ps : ∀ i, i < ns.length → -(2 ^ 120) ≤ psum ns i ∧ psum ns i ≤ 2 ^ 120 := fun i hi => by
    have h := sum_small (M := 2 ^ 110) (l := ns.take (i + 1)) fun x hx => r.e x (List.mem_of_mem_take hx)
    have hl : (ns.take (i + 1)).length ≤ 200 := by
      rw [List.length_take]
      omega
    have e : (200 : Int) * 2 ^ 110 ≤ 2 ^ 120 := by decide +kernel
    have : ((ns.take (i + 1)).length : Int) * 2 ^ 110 ≤ 200 * 2 ^ 110 := Int.mul_le_mul_of_nonneg_right (by omega) (by decide +kernel)
    unfold psum
    omega
  have e1 : (2 : Int) ^ 120 + 2 ^ 160 ≤ 2 ^ 180 := by decide +kernel
  have e2 : (2 : Int) ^ 110 + 2 ^ 160 ≤ 2 ^ 180 := by decide +kernel
  refine ⟨fun x hx => ?_, fun x hx => ?_, fun x hx => ?_, fun x hx => ?_⟩ <;> obtain ⟨i, hi, rfl⟩ := mem_nth hx
  · rw [r.lL] at hi
    have := ps i hi
    have := r.l i hi
    have := r.u i hi
    have := r.w i hi
    unfold Ev.Sm
    omega
  · rw [r.lU] at hi
    have := ps i hi
    have := r.l i hi
    have := r.u i hi
    have := r.w i hi
    unfold Ev.Sm
    omega
  · rw [r.lA] at hi
    have := r.e _ (nth_mem hi)
    have := r.a i hi
    have := r.b i hi
    have := r.v i hi
    unfold Ev.Sm
    omega
  · rw [r.lB] at hi
    have := r.e _ (nth_mem hi)
    have := r.a i hi
    have := r.b i hi
    have := r.v i hi
    unfold Ev.Sm
    omega
theorem Sm.log {x : Int} (h : Sm x) : x.natAbs.log2 < 190 := by
  have e : (2 : Int) ^ 180 < 2 ^ 190 := by decide +kernel
  have e2 : ((2 ^ 190 : Nat) : Int) = (2 : Int) ^ 190 := by simp
  unfold Sm at h
  exact PySem.Flt.log2_lt_of (by decide) (show x.natAbs < 2 ^ 190 by omega)
theorem Sm.text {x : Int} (h : Sm x) : (PyData.int x).shown.length ≤ 191 := by
  rw [PyData.shown]
  show (Str.ofString (toString x)).length ≤ 191
  rw [PySem.ofString_length]
  exact int_text_length_le (by decide) h.log
theorem show_ints : ∀ {ns : List Int}, (∀ x ∈ ns, Sm x) → PyData.showableAll (ns.map PyData.int) = true
  | [], _ => rfl
  | x :: r, h => by
    have := (h x (.head _)).log
    rw [List.map_cons, PyData.showableAll, PyData.showable, show_ints fun y hy => h y (.tail _ hy), decide_eq_true (by omega)]
    rfl
theorem dict_ints : ∀ {ns : List Int}, PyData.hasDictAll (ns.map PyData.int) = false
  | [] => rfl
  | x :: r => by
    rw [List.map_cons, PyData.hasDictAll, PyData.hasDict, dict_ints]
    rfl
theorem len_ints : ∀ {ns : List Int}, (∀ x ∈ ns, Sm x) → ((PyData.shownAll (ns.map PyData.int)).map (·.length)).sum ≤ 191 * ns.length ∧ (PyData.shownAll (ns.map PyData.int)).length = ns.length
  | [], _ => ⟨Nat.le_refl _, rfl⟩
  | x :: r, h => by
    have h1 := len_ints (ns := r) fun y hy => h y (.tail _ hy)
    have h2 := (h x (.head _)).text
    rw [List.map_cons, PyData.shownAll, List.map_cons, List.sum_cons, List.length_cons, List.length_cons, h1.2]
    omega
theorem text_ints {ns : List Int} (h : ∀ x ∈ ns, Sm x) : (PyData.list (ns.map PyData.int)).shown.length ≤ 193 * ns.length + 3 := by
  have h1 := len_ints h
  have h2 := listText_len_le (PyData.shownAll (ns.map PyData.int))
  rw [PyData.shown]
  omega
/-- what the law tells of a plan -/
def tell (d : PD) : PyData := .list [.int d.L.length, .int d.L.length, .list (d.L.map PyData.int), .list (d.U.map PyData.int), .list (d.A.map PyData.int), .list (d.B.map PyData.int), .int (nth d.L (d.L.length - 1))]
theorem tell_ok {d : PD} (ok : d.Ok) (sm : d.Sm) (hl : d.L.length ≤ 70) : (tell d).showable = true ∧ (tell d).hasDict = false ∧ (tell d).depth ≤ 60 ∧ (tell d).shown.length ≤ sizeLine := by
  have one := ok.one
  have n : Sm (d.L.length : Int) := by
    have : (200 : Int) ≤ 2 ^ 180 := by decide +kernel
    unfold Sm
    omega
  have t : Sm (nth d.L (d.L.length - 1)) := sm.l _ (nth_mem (by omega))
  have lU := ok.lU
  have lA := ok.lA
  have lB := ok.lB
  refine ⟨?_, ?_, ?_, ?_⟩
  · have h1 := n.log
    have h2 := t.log
    simp only [tell, PyData.showable, PyData.showableAll, show_ints sm.l, show_ints sm.u, show_ints sm.a, show_ints sm.b, Bool.and_true, Bool.and_eq_true, decide_eq_true_eq]
    exact ⟨by omega, by omega, trivial, trivial, trivial, trivial, by omega⟩
  · simp only [tell, PyData.hasDict, PyData.hasDictAll, dict_ints, Bool.or_false]
  · simp only [tell, PyData.depth, PyData.depthAll, depth_ints]
    omega
  · have a1 := n.text
    have a2 := t.text
    have a3 := text_ints sm.l
    have a4 := text_ints sm.u
    have a5 := text_ints sm.a
    have a6 := text_ints sm.b
    have h := listText_len_le (PyData.shownAll [.int d.L.length, .int d.L.length, .list (d.L.map PyData.int), .list (d.U.map PyData.int), .list (d.A.map PyData.int), .list (d.B.map PyData.int), .int (nth d.L (d.L.length - 1))])
    have e : (tell d).shown = listText (PyData.shownAll [.int d.L.length, .int d.L.length, .list (d.L.map PyData.int), .list (d.U.map PyData.int), .list (d.A.map PyData.int), .list (d.B.map PyData.int), .int (nth d.L (d.L.length - 1))]) := by
      unfold tell
      rw [PyData.shown]
    rw [e]
    refine Nat.le_trans h (Nat.le_trans ?_ (show 60000 ≤ sizeLine by decide))
    simp only [PyData.shownAll, List.map_cons, List.map_nil, List.sum_cons, List.sum_nil, List.length_cons, List.length_nil]
    omega
theorem tell_dp {K : PySem.W.Frag} {H : Hp} {t l1 l2 l3 l4 : Addr} {d : PD} (h0 : H t = some (.lst [.int d.L.length, .int d.L.length, .ref l1, .ref l2, .ref l3, .ref l4, .int (nth d.L (d.L.length - 1))])) (h1 : H l1 = some (.lst (d.L.map V.int))) (h2 : H l2 = some (.lst (d.U.map V.int))) (h3 : H l3 = some (.lst (d.A.map V.int))) (h4 : H l4 = some (.lst (d.B.map V.int))) : Dp K H (.ref t) (tell d) :=
  .lst (SqL.of h0) (.cons (.int _) (.cons (.int _) (.cons (.lst (SqL.of h1) (dpAll_ints _)) (.cons (.lst (SqL.of h2) (dpAll_ints _)) (.cons (.lst (SqL.of h3) (dpAll_ints _)) (.cons (.lst (SqL.of h4) (dpAll_ints _)) (.cons (.int _) .nil)))))))
section
variable {P : Program} {w : World} {K : PySem.W.Frag} {mg : Str → Option Value} {base : Heap}
def sp__law_told (K : PySem.W.Frag) : Sp := fun vs H Q _ => ∃ (p : Addr) (d : PD), vs = [.ref p] ∧ PlanAt K [] H p d ∧ d.Ok ∧ d.Sm ∧ d.L.length ≤ 70 ∧ ∀ H', Fr [] H H' → Q (.str (tell d).shown) H'
theorem k__law_told (T : Tx fa fn K mg base) : FkG P w K mg base "_law_told" ["made"] 3 (sp__law_told K) s__law_told "_law_told" := by
  refine T.fkG 18 34 (q := "_law_told") (st := s__law_told) sc__law_told (fun _ _ _ _ _ _ us hl => match us, hl with | [_], _ => rfl) (fun vs H Q E h => ?_) (fun cdv A outer s H vs Q E gd hr h => ?_)
  · obtain ⟨p, d, rfl, _⟩ := h
    rfl
  · obtain ⟨p, d, rfl, pd, ok, sm, hl, k⟩ := h
    have one := ok.one
    refine ⟨_, (pss_one (ps_ret (pe_callB (cr_repr gd hr.units) (by rfl) (T.fr 33) (by decide +kernel) (pa_cons (pe_lst (pa_cons (pe_pr (pv 0) (k_Plan_times T) hr) (pa_cons (pe_callB (cr_lenP (k_Plan___len__ T) (hr.mono (by decide))) (by rfl) (T.fr 5) (by decide +kernel) (pa_cons (pv 0) pa_nil)) (pa_cons (pe_pr (pv 0) (k_Plan_low T) hr) (pa_cons (pe_pr (pv 0) (k_Plan_high T) hr) (pa_cons (pe_pr (pv 0) (k_Plan_least T) hr) (pa_cons (pe_pr (pv 0) (k_Plan_most T) hr) (pa_cons (pe_pr (pv 0) (k_Plan_total T) hr) pa_nil)))))))) pa_nil)))), ?_⟩
    walk_at "ev0"
    obtain ⟨dx, l1, l2, l3, l4, h0, _⟩ := pd.ex
    refine r_exp h0 ⟨p, d, rfl, pd, ?_⟩
    walk_at "ev"
    refine r_lenD pd (by omega) ?_
    walk_at "ev"
    refine r_exp h0 ⟨p, d, rfl, pd, fun s1 k1 => ?_⟩
    have z1 := (Z.start0 H).alloc (.lst (d.L.map V.int)) k1
    walk_at "ev"
    refine r_exp (z1.keep h0 (by simp)) ⟨p, d, rfl, pd.mono (z1.fr0 (by simp)), fun s2 k2 => ?_⟩
    have z2 := z1.alloc (.lst (d.U.map V.int)) k2
    walk_at "ev"
    refine r_exp (z2.keep h0 (by simp)) ⟨p, d, rfl, pd.mono (z2.fr0 (by simp)), fun s3 k3 => ?_⟩
    have z3 := z2.alloc (.lst (d.A.map V.int)) k3
    walk_at "ev"
    refine r_exp (z3.keep h0 (by simp)) ⟨p, d, rfl, pd.mono (z3.fr0 (by simp)), fun s4 k4 => ?_⟩
    have z4 := z3.alloc (.lst (d.B.map V.int)) k4
    walk_at "ev"
    refine r_exp (z4.keep h0 (by simp)) ⟨p, d, rfl, pd.mono (z4.fr0 (by simp)), one, ?_⟩
    walk_at "ev"
    intro t5 k5
    have z5 := z4.alloc (.lst [.int (d.L.length : Nat), .int (d.L.length : Nat), .ref s1, .ref s2, .ref s3, .ref s4, .int (nth d.L (d.L.length - 1))]) k5
    walk_at "ev"
    exact ⟨t5, tell d, rfl, tell_dp (z5.get (.head _)) (z5.get (.tail _ (.tail _ (.tail _ (.tail _ (.head _)))))) (z5.get (.tail _ (.tail _ (.tail _ (.head _))))) (z5.get (.tail _ (.tail _ (.head _)))) (z5.get (.tail _ (.head _))), tell_ok ok sm hl, k _ (z5.fr0 (by simp))⟩
def sp__law_due (K : PySem.W.Frag) : Sp := fun vs H Q _ => ∃ (r : Addr) (d : PD), vs = [.ref r] ∧ RawAt [] H true r d ∧ d.Ok ∧ d.Sm ∧ d.L.length ≤ 70 ∧ ∀ H', Fr [] H H' → Q (.str (tell d).shown) H'
theorem k__law_due (T : Tx fa fn K mg base) : FkG P w K mg base "_law_due" ["raw"] 1 (sp__law_due K) s__law_due "_law_due" := by
  refine T.fkG 19 35 (q := "_law_due") (st := s__law_due) sc__law_due (fun _ _ _ _ _ _ us hl => match us, hl with | [_], _ => rfl) (fun vs H Q E h => ?_) (fun cdv A outer s H vs Q E gd hr h => ?_)
  · obtain ⟨r, d, rfl, _⟩ := h
    rfl
  · obtain ⟨r, d, rfl, ra, ok, sm, hl, k⟩ := h
    obtain ⟨l1, l2, l3, l4, h0, ⟨h1, h2, h3, h4⟩, _⟩ := ra.ex
    have h0 : H r = some (.tup [.ref l1, .ref l2, .ref l3, .ref l4]) := h0
    have one := ok.one
    have hlen : (d.L.map V.int).length = d.L.length := List.length_map _
    refine ⟨_, (pss_one (ps_ret (pe_callB (cr_repr gd hr.units) (by rfl) (T.fr 33) (by decide +kernel) (pa_cons (pe_lst (pa_cons (pe_callB call_len_seq (by rfl) (T.fr 5) (by decide +kernel) (pa_cons (pe_ix ix_tup (pv 0) pe_int (fun _ _ => rfl)) pa_nil)) (pa_cons (pe_callB call_len_seq (by rfl) (T.fr 5) (by decide +kernel) (pa_cons (pe_ix ix_tup (pv 0) pe_int (fun _ _ => rfl)) pa_nil)) (pa_cons (pe_ix ix_tup (pv 0) pe_int (fun _ _ => rfl)) (pa_cons (pe_ix ix_tup (pv 0) pe_int (fun _ _ => rfl)) (pa_cons (pe_ix ix_tup (pv 0) pe_int (fun _ _ => rfl)) (pa_cons (pe_ix ix_tup (pv 0) pe_int (fun _ _ => rfl)) (pa_cons (pe_ix ix_list (pe_ix ix_tup (pv 0) pe_int (fun _ _ => rfl)) (pe_un un_neg pe_int) (fun _ _ => rfl)) pa_nil)))))))) pa_nil)))), ?_⟩
    walk_at "ev0"
    refine r_at (atI_end (by omega)) ?_
    walk_at "ev"
    rw [hlen]
    intro t5 k5
    have z5 := (Z.start0 H).alloc (.lst [.int (d.L.length : Nat), .int (d.L.length : Nat), .ref l1, .ref l2, .ref l3, .ref l4, .int (nth d.L (d.L.length - 1))]) k5
    walk_at "ev"
    exact ⟨t5, tell d, rfl, tell_dp (z5.get (.head _)) (z5.keep h1 (by simp)) (z5.keep h2 (by simp)) (z5.keep h3 (by simp)) (z5.keep h4 (by simp)), tell_ok ok sm hl, k _ (z5.fr0 (by simp))⟩
end
set_option Elab.async false
set_option linter.all false
set_option maxRecDepth 100000
set_option maxHeartbeats 4000000
set_option exponentiation.threshold 2000

theorem app_l {ns ms : List Int} {i : Nat} (h : i < ns.length) : nth (ns ++ ms) i = nth ns i := by
  unfold nth
  rw [List.getD_eq_getElem?_getD, List.getD_eq_getElem?_getD, List.getElem?_append_left h]
/-- the bounds with one more time behind -/
def PD.more (d : PD) : PD := ⟨d.L ++ [nth d.L (d.L.length - 1)], d.U ++ [nth d.U (d.U.length - 1)], d.A ++ [-9], d.B ++ [10 ^ 9]⟩
theorem PD.Ok.more {d : PD} (ok : d.Ok) (h : d.L.length < 200) : d.more.Ok := by
  have one := ok.one
  have lU := ok.lU
  have lA := ok.lA
  have lB := ok.lB
  have tot := ok.tot
  refine ⟨?_, ?_, ?_, ?_, ?_, fun i hi => ?_, fun i hi => ?_, ?_⟩ <;> dsimp only [PD.more] at * <;> (try rw [List.length_append, List.length_singleton] at hi) <;> (try simp only [List.length_append, List.length_singleton])
  · omega
  · omega
  · omega
  · omega
  · omega
  · by_cases c : i < d.L.length
    · rw [app_l c, app_l (by omega)]
      exact ok.lu i c
    · rw [nth_app_at (by omega), nth_app_at (by omega), lU]
      exact Int.le_of_eq tot
  · by_cases c : i < d.L.length
    · rw [app_l (by omega), app_l (by omega)]
      exact ok.ab i c
    · rw [nth_app_at (by omega), nth_app_at (by omega)]
      decide +kernel
  · rw [nth_app_at (by omega), nth_app_at (by omega), lU, tot]
theorem PD.more_ne {d : PD} : d.more ≠ d := fun e => by
  have h := congrArg (fun d => d.L.length) e
  dsimp only [PD.more] at h
  rw [List.length_append, List.length_singleton] at h
  omega
/-- one number of the bounds changed -/
def PD.chL (d : PD) (i : Nat) : PD := ⟨d.L.set i (nth d.L i + -1), d.U, d.A, d.B⟩
def PD.chU (d : PD) (i : Nat) : PD := ⟨d.L, d.U.set i (nth d.U i + 1), d.A, d.B⟩
def PD.chA (d : PD) (i : Nat) : PD := ⟨d.L, d.U, d.A.set i (nth d.A i + -1), d.B⟩
def PD.chB (d : PD) (i : Nat) : PD := ⟨d.L, d.U, d.A, d.B.set i (nth d.B i + 1)⟩
theorem Fr.set {J : List Addr} {H H1 : Hp} {p : Addr} {o : HO} (a : Fr J H H1) (hp : p ∈ J) : Fr J H (upd H1 p o) := fun x u hx h => by
  rw [upd_ne (fun e => hx (by rw [e]; exact hp))]
  exact a x u hx h
theorem set_ne {ns : List Int} {i : Nat} {x : Int} (h : i < ns.length) (hx : x ≠ 0) : ns.set i (nth ns i + x) ≠ ns := fun e => by
  have h2 := nth_set_at (x := nth ns i + x) h
  rw [e] at h2
  omega
theorem PD.chL_ne {d : PD} {i : Nat} (hi : i < d.L.length) : d.chL i ≠ d := fun e => Ev.set_ne hi (by decide) (congrArg PD.L e)
theorem PD.chU_ne {d : PD} {i : Nat} (hi : i < d.U.length) : d.chU i ≠ d := fun e => Ev.set_ne hi (by decide) (congrArg PD.U e)
theorem PD.chA_ne {d : PD} {i : Nat} (hi : i < d.A.length) : d.chA i ≠ d := fun e => Ev.set_ne hi (by decide) (congrArg PD.A e)
theorem PD.chB_ne {d : PD} {i : Nat} (hi : i < d.B.length) : d.chB i ≠ d := fun e => Ev.set_ne hi (by decide) (congrArg PD.B e)
theorem set_nth {ns : List Int} {i k : Nat} {x : Int} (h : i < ns.length) : nth (ns.set i (nth ns i + x)) k = if k = i then nth ns i + x else nth ns k := by
  by_cases e : k = i
  · subst e
    rw [nth_set_at h, if_pos rfl]
  · rw [nth_set_ne e, if_neg e]
theorem PD.Ok.chL {d : PD} (ok : d.Ok) {i : Nat} (h : i + 1 < d.L.length) : (d.chL i).Ok := by
  have lU := ok.lU
  have e : (d.L.set i (nth d.L i + -1)).length = d.L.length := List.length_set ..
  refine ⟨e ▸ ok.one, e ▸ ok.most, ok.lU.trans e.symm, ok.lA.trans e.symm, ok.lB.trans e.symm, fun k hk => ?_, fun k hk => ok.ab k (e ▸ hk), ?_⟩ <;> dsimp only [PD.chL] at * <;> rw [e] at *
  · rw [set_nth (by omega)]
    have := ok.lu k hk
    split
    · subst_vars
      omega
    · exact this
  · rw [set_nth (by omega), if_neg (by omega)]
    exact ok.tot
theorem PD.Ok.chU {d : PD} (ok : d.Ok) {i : Nat} (h : i + 1 < d.L.length) : (d.chU i).Ok := by
  have lU := ok.lU
  refine ⟨ok.one, ok.most, (List.length_set ..).trans ok.lU, ok.lA, ok.lB, fun k hk => ?_, ok.ab, ?_⟩ <;> dsimp only [PD.chU] at *
  · rw [set_nth (by omega)]
    have := ok.lu k hk
    split
    · subst_vars
      omega
    · exact this
  · rw [set_nth (by omega), if_neg (by omega)]
    exact ok.tot
theorem PD.Ok.chA {d : PD} (ok : d.Ok) {i : Nat} (h : i < d.L.length) : (d.chA i).Ok := by
  have lA := ok.lA
  refine ⟨ok.one, ok.most, ok.lU, (List.length_set ..).trans ok.lA, ok.lB, ok.lu, fun k hk => ?_, ok.tot⟩
  dsimp only [PD.chA] at *
  rw [set_nth (by omega)]
  have := ok.ab k hk
  split
  · subst_vars
    omega
  · exact this
theorem PD.Ok.chB {d : PD} (ok : d.Ok) {i : Nat} (h : i < d.L.length) : (d.chB i).Ok := by
  have lB := ok.lB
  refine ⟨ok.one, ok.most, ok.lU, ok.lA, (List.length_set ..).trans ok.lB, ok.lu, fun k hk => ?_, ok.tot⟩
  dsimp only [PD.chB] at *
  rw [set_nth (by omega)]
  have := ok.ab k hk
  split
  · subst_vars
    omega
  · exact this
section
variable {P : Program} {w : World} {K : PySem.W.Frag} {mg : Str → Option Value} {base : Heap}
/-- other plans, listed, apart from J -/
def Others (K : PySem.W.Frag) (J : List Addr) (H : Hp) (d : PD) (ps : List Addr) : Prop := ∀ p ∈ ps, ∃ e, PlanAt K J H p e ∧ e ≠ d
theorem Others.mono {J : List Addr} {H H' : Hp} {d : PD} {ps : List Addr} (o : Others K J H d ps) (f : Fr J H H') : Others K J H' d ps := fun p hp => by
  obtain ⟨e, pe, ne⟩ := o p hp
  exact ⟨e, pe.mono f, ne⟩
theorem Others.nil {J : List Addr} {H : Hp} {d : PD} {ps : List Addr} (o : Others K J H d ps) : Others K [] H d ps := fun p hp => by
  obtain ⟨e, pe, ne⟩ := o p hp
  exact ⟨e, pe.nil, ne⟩
theorem Others.snoc {J : List Addr} {H : Hp} {d e : PD} {ps : List Addr} {p : Addr} (o : Others K J H d ps) (pe : PlanAt K J H p e) (ne : e ≠ d) : Others K J H d (ps ++ [p]) := fun q hq => by
  rcases List.mem_append.mp hq with h | h
  · exact o q h
  · obtain rfl := List.mem_singleton.mp h
    exact ⟨e, pe, ne⟩
/-- [list(b) for b in raw] of four lists of bounds in a tuple -/
theorem lc_copies {H0 H1 : Hp} {j : Addr} {n : Nat} {E : List En} {r l1 l2 l3 l4 : Addr} {d : PD} {k : Nat} {vs : List Nat} {σ : L2.St} {Q : VK} (z : ZJ H0 H1 j n E) (ok : d.Ok) (h0 : H1 r = some (.tup [.ref l1, .ref l2, .ref l3, .ref l4]))
    (h1 : H1 l1 = some (.lst (d.L.map V.int))) (h2 : H1 l2 = some (.lst (d.U.map V.int))) (h3 : H1 l3 = some (.lst (d.A.map V.int))) (h4 : H1 l4 = some (.lst (d.B.map V.int))) (hw : ∀ x, wipe ((wipe σ vs).set k (some x)) vs = wipe σ vs) (hv : ∀ x, ((wipe σ vs).set k (some x))[k]? = some (some x))
    (hd : ∀ D m1 m2 m3 m4 H', ZJ H0 H' j n ((2, D, .lst [.ref m1, .ref m2, .ref m3, .ref m4]) :: (2, m4, .lst (d.B.map V.int)) :: (2, m3, .lst (d.A.map V.int)) :: (2, m2, .lst (d.U.map V.int)) :: (2, m1, .lst (d.L.map V.int)) :: E) →
      Fr [] H1 H' → (H1 D = none ∧ H1 m1 = none ∧ H1 m2 = none ∧ H1 m3 = none ∧ H1 m4 = none) → Q (.ref D) H') : LcJ (gName k) tYes (tCB (rListX K) (tCons (tVar k) tNil)) vs σ Q (Itt K r) H1 := by
  have four : ∀ (i : Nat) (x : V), [V.ref l1, V.ref l2, V.ref l3, V.ref l4][i]? = some x → ∃ (a : Addr) (ns : List Int), x = .ref a ∧ H1 a = some (.lst (ns.map V.int)) ∧ ([d.L, d.U, d.A, d.B].getD i []) = ns := by
    intro i x h
    match i, h with
    | 0, h => exact ⟨l1, d.L, (Option.some.inj h).symm, h1, rfl⟩
    | 1, h => exact ⟨l2, d.U, (Option.some.inj h).symm, h2, rfl⟩
    | 2, h => exact ⟨l3, d.A, (Option.some.inj h).symm, h3, rfl⟩
    | 3, h => exact ⟨l4, d.B, (Option.some.inj h).symm, h4, rfl⟩
  refine lc_lists (walk_tup (xs := [.ref l1, .ref l2, .ref l3, .ref l4])) (fun i => [d.L, d.U, d.A, d.B].getD i []) (show 4 ≤ 1000 by decide) (fun H' e => SqT.of (e _ _ nin h0)) (fun i H' x H'' y => y.1) (fun i x H' R hi e y kR => ?_) (fun D M H2 e z2 => ?_)
  · obtain ⟨a, ns, rfl, ha, hg⟩ := four i x y.2
    rw [hg] at kR
    refine ⟨hw _, ⟨.ref a, hv _, ?_⟩⟩
    exact ⟨a, _, rfl, .inl (SqL.of (e _ _ nin ha)), fun l hl => kR l _ ((Fr.refl _).new hl) hl upd_same⟩
  · match M, e with
    | [(m4, n4), (m3, n3), (m2, n2), (m1, n1)], e =>
      have e4 : n4 = d.B := (List.cons.inj e).1
      have e3 : n3 = d.A := (List.cons.inj (List.cons.inj e).2).1
      have e2 : n2 = d.U := (List.cons.inj (List.cons.inj (List.cons.inj e).2).2).1
      have e1 : n1 = d.L := (List.cons.inj (List.cons.inj (List.cons.inj (List.cons.inj e).2).2).2).1
      subst e1 e2 e3 e4
      have z' : Z H1 H2 [(2, D, .lst [.ref m1, .ref m2, .ref m3, .ref m4]), (2, m4, .lst (d.B.map V.int)), (2, m3, .lst (d.A.map V.int)), (2, m2, .lst (d.U.map V.int)), (2, m1, .lst (d.L.map V.int))] := z2
      refine hd D m1 m2 m3 m4 H2 (z.call0 (N := [(D, .lst [.ref m1, .ref m2, .ref m3, .ref m4]), (m4, .lst (d.B.map V.int)), (m3, .lst (d.A.map V.int)), (m2, .lst (d.U.map V.int)), (m1, .lst (d.L.map V.int))]) (z'.fr0 (by simp)) (z'.made (List.Sublist.refl _))) (z'.fr0 (by simp)) ?_
      exact ⟨z'.fresh _ (.head _) rfl, z'.fresh _ (.tail _ (.tail _ (.tail _ (.tail _ (.head _))))) rfl, z'.fresh _ (.tail _ (.tail _ (.tail _ (.head _)))) rfl, z'.fresh _ (.tail _ (.tail _ (.head _))) rfl, z'.fresh _ (.tail _ (.head _)) rfl⟩
def sp__law_others (K : PySem.W.Frag) : Sp := fun vs H Q _ => ∃ (j r : Addr) (d : PD) (n : Nat), vs = [.ref j, .ref r] ∧ RawAt [j] H true r d ∧ d.Ok ∧ d.L.length < 200 ∧ JarAt H j (n + 1) ∧
  ∀ t ps H', H t = none → H' t = some (.lst (ps.map V.ref)) → ps.length ≤ 5 → Others K [] H' d ps → Fr [j] H H' → JarAt H' j n → Q (.ref t) H'
theorem k__law_others (T : Tx fa fn K mg base) : Fk P w K mg base "_law_others" ["jar", "raw"] 6 (sp__law_others K) s__law_others "_law_others" := by
  refine T.fk 20 36 (q := "_law_others") (st := s__law_others) sc__law_others (fun _ _ _ _ _ _ us hl => match us, hl with | [_, _], _ => rfl) (fun vs H Q E h => ?_) (fun cdv A outer s H vs Q E hr h => ?_)
  · obtain ⟨j, r, d, n, rfl, _⟩ := h
    rfl
  · obtain ⟨j, r, d, n, rfl, ra, ok, hl, hj, k⟩ := h
    have ra0 := ra
    obtain ⟨l1, l2, l3, l4, h0, ⟨h1, h2, h3, h4⟩, n0, n1, n2, n3, n4⟩ := ra.ex
    have h0 : H r = some (.tup [.ref l1, .ref l2, .ref l3, .ref l4]) := h0
    have one := ok.one
    have lU := ok.lU
    have lA := ok.lA
    have lB := ok.lB
    have hlen : (d.L.map V.int).length = d.L.length := List.length_map _
    have e0 : r ≠ j := fun e => n0 (by rw [e]; exact List.mem_cons_self)
    have e1 : l1 ≠ j := fun e => n1 (by rw [e]; exact List.mem_cons_self)
    have big : (1000 : Int) < 2 ^ 1000 := by decide +kernel
    refine ⟨_, (pss_cons (ps_par (i := 2) (j := 3) (by rfl) sc__law_others.nd rfl rfl (by decide) rfl rfl (pa_cons (pe_lst pa_nil) (pa_cons (pe_f (k__law_dip T) hr (pa_cons (pv 0) (pa_cons (pe_callB call_len_seq (by rfl) (T.fr 5) (by decide +kernel) (pa_cons (pe_ix ix_tup (pv 1) pe_int (fun _ _ => rfl)) pa_nil)) pa_nil))) pa_nil)) (by rfl))
      (pss_cons (ps_for PassesOwn.never rfl (pi_list (pe_lst (pa_cons (pe_tup (pa_cons pe_int (pa_cons (pe_un un_neg pe_int) pa_nil))) (pa_cons (pe_tup (pa_cons pe_int (pa_cons pe_int pa_nil))) (pa_cons (pe_tup (pa_cons pe_int (pa_cons (pe_un un_neg pe_int) pa_nil))) (pa_cons (pe_tup (pa_cons pe_int (pa_cons pe_int pa_nil))) pa_nil)))))) (pg_tup rfl (pgs_cons (pg_name (i := 4) sc__law_others.nd rfl (by first | exact Or.inl rfl | exact Or.inr rfl)) (pgs_cons (pg_name (i := 5) sc__law_others.nd rfl (by first | exact Or.inl rfl | exact Or.inr rfl)) pgs_nil))) (pss_cons (ps_setLc (i := 6) (own := [("bounds", 7)]) (tt := tYes) (te := (tCB (rListX K) (tCons (tVar 7) tNil))) rfl sc__law_others.nd rfl rfl (sw_true rfl rfl rfl (by decide +kernel)) (pi_tup (pv 1)) (blkOk_by (N := ["jar", "raw", "found", "spot", "part", "by_here", "changed", "bounds"]) (sc := defScope s__law_others) (by decide +kernel)) (fun _ _ _ _ _ => (pg_name (i := 7) sc__law_others.nd rfl (by first | exact Or.inl rfl | exact Or.inr rfl))) (fun _ _ _ _ _ => pts_nil) (fun _ _ _ _ _ => (pe_callTy call_list_of (by rfl) (T.fr 7) (by decide +kernel) (pa_cons (pv 7) pa_nil))))
      (pss_one (ps_if (PW.pt (pw_or (pt_cmpR op_gt (pv 4) pe_int (nomark _)) (pw_or1 (pt_cmpR op_lt (pe_op op_add (pv 3) pe_int) (pe_callB call_len_seq (by rfl) (T.fr 5) (by decide +kernel) (pa_cons (pe_ix ix_tup (pv 1) pe_int (fun _ _ => rfl)) pa_nil)) (nomark _))))) (pss_cons (ps_asg (pe_op op_add (pe_ix ix_list (pe_ix ix_list (pv 6) (pv 4) (fun _ _ => rfl)) (pv 3) (fun _ _ => rfl)) (pv 5)) (pg_sub (pe_ix ix_list (pv 6) (pv 4) (fun _ _ => rfl)) (pv 3) set_list))
      (pss_one (ps_expr (pe_bm PySem.F.plainAttrs_list PySem.F.slot_list_append PySem.F.type_list_append mt_append (pv 2) (pa_cons (pe_f (k__law_heap T) hr (pa_cons (pv 6) pa_nil)) pa_nil))))) pss_nil))))
      (pss_one (ps_ret (pe_op op_cat (pv 2) (pe_lst (pa_cons (pe_mk (k_Plan___init__ T) (T.glo 21) hr (pa_cons (pe_op op_cat (pe_ix ix_tup (pv 1) pe_int (fun _ _ => rfl)) (pe_slice sl_list (pe_ix ix_tup (pv 1) pe_int (fun _ _ => rfl)) (po_some (pe_un un_neg pe_int)) po_none)) (pa_cons (pe_op op_cat (pe_ix ix_tup (pv 1) pe_int (fun _ _ => rfl)) (pe_slice sl_list (pe_ix ix_tup (pv 1) pe_int (fun _ _ => rfl)) (po_some (pe_un un_neg pe_int)) po_none)) (pa_cons (pe_op op_cat (pe_ix ix_tup (pv 1) pe_int (fun _ _ => rfl)) (pe_lst (pa_cons (pe_un un_neg pe_int) pa_nil))) (pa_cons (pe_op op_cat (pe_ix ix_tup (pv 1) pe_int (fun _ _ => rfl)) (pe_lst (pa_cons (pe_op op_powW pe_int pe_int) pa_nil))) pa_nil))))) pa_nil))))))), ?_⟩
    walk_at "ev0"
    intro f1 k1
    have z1 := (ZJ.start hj).alloc (.lst []) k1
    walk_at "ev"
    refine ⟨j, _, n, rfl, z1.jar, by omega, by omega, fun v2 H2 a2 b2 f2 q2 => ?_⟩
    obtain ⟨g, rfl⟩ := Int.eq_ofNat_of_zero_le a2
    have hg : g < d.L.length := by omega
    have z2 := z1.dips f2 q2
    walk_at "ev"
    intro t1 c1
    have z3 := z2.alloc (.tup [.int 2, .int (-1)]) c1
    walk_at "ev"
    intro t2 c2
    have z4 := z3.alloc (.tup [.int 3, .int 1]) c2
    walk_at "ev"
    intro t3 c3
    have z5 := z4.alloc (.tup [.int 0, .int (-1)]) c3
    walk_at "ev"
    intro t4 c4
    have z6 := z5.alloc (.tup [.int 1, .int 1]) c4
    walk_at "ev"
    intro q7 c7
    have z7 := z6.alloc (.lst [.ref t1, .ref t2, .ref t3, .ref t4]) c7
    walk_at "ev"
    have four : ∀ {H1 : Hp} (i : Nat) (x : V), Fr [j] H H1 → [V.ref l1, V.ref l2, V.ref l3, V.ref l4][i]? = some x → ∃ (a : Addr) (ns : List Int), x = .ref a ∧ H1 a = some (.lst (ns.map V.int)) ∧ ns.length ≤ 200 ∧ ([d.L, d.U, d.A, d.B].getD i []) = ns := by
      intro H1 i x f h
      match i, h with
      | 0, h => exact ⟨l1, d.L, (Option.some.inj h).symm, f _ _ n1 h1, by omega, rfl⟩
      | 1, h => exact ⟨l2, d.U, (Option.some.inj h).symm, f _ _ n2 h2, by omega, rfl⟩
      | 2, h => exact ⟨l3, d.A, (Option.some.inj h).symm, f _ _ n3 h3, by omega, rfl⟩
      | 3, h => exact ⟨l4, d.B, (Option.some.inj h).symm, f _ _ n4 h4, by omega, rfl⟩
    refine for_it (walk_list (xs := [.ref t1, .ref t2, .ref t3, .ref t4])) (fun i σ H' => ∃ (u4 u5 u6 : Option V) (ps : List Addr), σ = [some (.ref j), some (.ref r), some (.ref f1), some (.int (g : Nat)), u4, u5, u6, none] ∧
      ZJ H H' j n [(2, f1, .lst (ps.map V.ref)), (2, q7, .lst [.ref t1, .ref t2, .ref t3, .ref t4]), (2, t4, .tup [.int 1, .int 1]), (2, t3, .tup [.int 0, .int (-1)]), (2, t2, .tup [.int 3, .int 1]), (2, t1, .tup [.int 2, .int (-1)])] ∧ ps.length ≤ i ∧ Others K [f1] H' d ps)
      ⟨none, none, none, [], rfl, z7.sel [5, 0, 1, 2, 3, 4] rfl, Nat.le_refl _, fun _ m => nomatch m⟩ (fun i σ H' _ p => by obtain ⟨_, _, _, _, _, z, _⟩ := p; exact SqL.of (z.get (.tail _ (.head _)))) (fun i x σ H' H'' hi p y => ?_) (fun σ H6 p => ?_)
    · obtain ⟨u4, u5, u6, ps, rfl, z, hps, oth⟩ := p
      obtain ⟨rfl, hx⟩ := y
      have i0 := z.keep h0 e0
      have ff := z.fr
      match i, hx with
      | 0, hx =>
        obtain rfl : x = .ref t1 := (Option.some.inj hx).symm
        walk_at "ev"
        refine lc_copies z ok i0 (ff _ _ n1 h1) (ff _ _ n2 h2) (ff _ _ n3 h3) (ff _ _ n4 h4) (fun _ => rfl) (fun _ => rfl) (fun D m1 m2 m3 m4 Hc zc gc xs => ?_)
        obtain ⟨x0, x1, x2, x3, x4⟩ := xs
        walk_at "ev"
        refine r_iteY (by decide) ?_
        walk_at "ev"
        refine r_at (atN (by omega)) ?_
        walk_at "ev"
        refine r_ixn (ixN_at (by rw [List.length_map]; omega)) ?_
        have w1 := zc.set 2 (.lst ((d.A.map V.int).set g (.int (nth d.A g + -1)))) rfl
        change ZJ H _ _ _ _ at w1
        have g1 : Fr [] H'' _ := gc.mut (p := m3) (o := .lst ((d.A.map V.int).set g (.int (nth d.A g + -1)))) x3
        walk_at "ev"
        have rd : RawAt [] _ false D (d.chA g) := ⟨m1, m2, m3, m4, w1.get (.head _), ⟨w1.get (.tail _ (.tail _ (.tail _ (.tail _ (.head _))))), w1.get (.tail _ (.tail _ (.tail _ (.head _)))), (w1.get (.tail _ (.tail _ (.head _)))).trans (by rw [← List.map_set] <;> rfl), w1.get (.tail _ (.head _))⟩, nin, nin, nin, nin, nin⟩
        refine ⟨D, false, d.chA g, rfl, rd, ok.chA (by omega), fun p Hp fp np => ?_⟩
        have w2 := w1.same fp
        walk_at "ev"
        have w3 := w2.set 5 (.lst (ps.map V.ref ++ [.ref p])) rfl
        have ex : ∀ x ∈ [f1], ∃ o, upd Hc m3 (.lst ((d.A.map V.int).set g (.int (nth d.A g + -1)))) x = some o := fun x m => by
          rw [List.mem_singleton.mp m]
          exact ⟨_, w1.get (.tail _ (.tail _ (.tail _ (.tail _ (.tail _ (.head _))))))⟩
        have o3 := ((oth.mono (g1.trans fp).up0).snoc (np.2 _ ex) (PD.chA_ne (by omega))).mono ((Fr.refl _).set (p := f1) (o := .lst (ps.map V.ref ++ [.ref p])) (.head _))
        refine ⟨_, _, _, ps ++ [p], rfl, ?_, by rw [List.length_append]; exact Nat.add_le_add_right hps 1, o3⟩
        rw [List.map_append]
        exact w3.sel [5, 6, 7, 8, 9, 10] rfl
      | 1, hx =>
        obtain rfl : x = .ref t2 := (Option.some.inj hx).symm
        walk_at "ev"
        refine lc_copies z ok i0 (ff _ _ n1 h1) (ff _ _ n2 h2) (ff _ _ n3 h3) (ff _ _ n4 h4) (fun _ => rfl) (fun _ => rfl) (fun D m1 m2 m3 m4 Hc zc gc xs => ?_)
        obtain ⟨x0, x1, x2, x3, x4⟩ := xs
        walk_at "ev"
        refine r_iteY (by decide) ?_
        walk_at "ev"
        refine r_at (atN (by omega)) ?_
        walk_at "ev"
        refine r_ixn (ixN_at (by rw [List.length_map]; omega)) ?_
        have w1 := zc.set 1 (.lst ((d.B.map V.int).set g (.int (nth d.B g + 1)))) rfl
        change ZJ H _ _ _ _ at w1
        have g1 : Fr [] H'' _ := gc.mut (p := m4) (o := .lst ((d.B.map V.int).set g (.int (nth d.B g + 1)))) x4
        walk_at "ev"
        have rd : RawAt [] _ false D (d.chB g) := ⟨m1, m2, m3, m4, w1.get (.head _), ⟨w1.get (.tail _ (.tail _ (.tail _ (.tail _ (.head _))))), w1.get (.tail _ (.tail _ (.tail _ (.head _)))), w1.get (.tail _ (.tail _ (.head _))), (w1.get (.tail _ (.head _))).trans (by rw [← List.map_set] <;> rfl)⟩, nin, nin, nin, nin, nin⟩
        refine ⟨D, false, d.chB g, rfl, rd, ok.chB (by omega), fun p Hp fp np => ?_⟩
        have w2 := w1.same fp
        walk_at "ev"
        have w3 := w2.set 5 (.lst (ps.map V.ref ++ [.ref p])) rfl
        have ex : ∀ x ∈ [f1], ∃ o, upd Hc m4 (.lst ((d.B.map V.int).set g (.int (nth d.B g + 1)))) x = some o := fun x m => by
          rw [List.mem_singleton.mp m]
          exact ⟨_, w1.get (.tail _ (.tail _ (.tail _ (.tail _ (.tail _ (.head _))))))⟩
        have o3 := ((oth.mono (g1.trans fp).up0).snoc (np.2 _ ex) (PD.chB_ne (by omega))).mono ((Fr.refl _).set (p := f1) (o := .lst (ps.map V.ref ++ [.ref p])) (.head _))
        refine ⟨_, _, _, ps ++ [p], rfl, ?_, by rw [List.length_append]; exact Nat.add_le_add_right hps 1, o3⟩
        rw [List.map_append]
        exact w3.sel [5, 6, 7, 8, 9, 10] rfl
      | 2, hx =>
        obtain rfl : x = .ref t3 := (Option.some.inj hx).symm
        walk_at "ev"
        refine lc_copies z ok i0 (ff _ _ n1 h1) (ff _ _ n2 h2) (ff _ _ n3 h3) (ff _ _ n4 h4) (fun _ => rfl) (fun _ => rfl) (fun D m1 m2 m3 m4 Hc zc gc xs => ?_)
        obtain ⟨x0, x1, x2, x3, x4⟩ := xs
        walk_at "ev"
        refine r_iteZ (by decide) ?_
        have i0 := zc.keep h0 e0
        have i1 := zc.keep h1 e1
        walk_at "ev"
        refine r_ite (fun c => ?_) (fun c => ?_)
        rotate_left
        · walk_at "ev"
          exact ⟨_, _, _, ps, rfl, zc.sel [5, 6, 7, 8, 9, 10] rfl, Nat.le_succ_of_le hps, oth.mono gc.up0⟩
        walk_at "ev"
        refine r_at (atN (by omega)) ?_
        walk_at "ev"
        refine r_ixn (ixN_at (by rw [List.length_map]; omega)) ?_
        have w1 := zc.set 4 (.lst ((d.L.map V.int).set g (.int (nth d.L g + -1)))) rfl
        change ZJ H _ _ _ _ at w1
        have g1 : Fr [] H'' _ := gc.mut (p := m1) (o := .lst ((d.L.map V.int).set g (.int (nth d.L g + -1)))) x1
        walk_at "ev"
        have rd : RawAt [] _ false D (d.chL g) := ⟨m1, m2, m3, m4, w1.get (.head _), ⟨(w1.get (.tail _ (.tail _ (.tail _ (.tail _ (.head _)))))).trans (by rw [← List.map_set] <;> rfl), w1.get (.tail _ (.tail _ (.tail _ (.head _)))), w1.get (.tail _ (.tail _ (.head _))), w1.get (.tail _ (.head _))⟩, nin, nin, nin, nin, nin⟩
        refine ⟨D, false, d.chL g, rfl, rd, ok.chL (by omega), fun p Hp fp np => ?_⟩
        have w2 := w1.same fp
        walk_at "ev"
        have w3 := w2.set 5 (.lst (ps.map V.ref ++ [.ref p])) rfl
        have ex : ∀ x ∈ [f1], ∃ o, upd Hc m1 (.lst ((d.L.map V.int).set g (.int (nth d.L g + -1)))) x = some o := fun x m => by
          rw [List.mem_singleton.mp m]
          exact ⟨_, w1.get (.tail _ (.tail _ (.tail _ (.tail _ (.tail _ (.head _))))))⟩
        have o3 := ((oth.mono (g1.trans fp).up0).snoc (np.2 _ ex) (PD.chL_ne (by omega))).mono ((Fr.refl _).set (p := f1) (o := .lst (ps.map V.ref ++ [.ref p])) (.head _))
        refine ⟨_, _, _, ps ++ [p], rfl, ?_, by rw [List.length_append]; exact Nat.add_le_add_right hps 1, o3⟩
        rw [List.map_append]
        exact w3.sel [5, 6, 7, 8, 9, 10] rfl
      | 3, hx =>
        obtain rfl : x = .ref t4 := (Option.some.inj hx).symm
        walk_at "ev"
        refine lc_copies z ok i0 (ff _ _ n1 h1) (ff _ _ n2 h2) (ff _ _ n3 h3) (ff _ _ n4 h4) (fun _ => rfl) (fun _ => rfl) (fun D m1 m2 m3 m4 Hc zc gc xs => ?_)
        obtain ⟨x0, x1, x2, x3, x4⟩ := xs
        walk_at "ev"
        refine r_iteZ (by decide) ?_
        have i0 := zc.keep h0 e0
        have i1 := zc.keep h1 e1
        walk_at "ev"
        refine r_ite (fun c => ?_) (fun c => ?_)
        rotate_left
        · walk_at "ev"
          exact ⟨_, _, _, ps, rfl, zc.sel [5, 6, 7, 8, 9, 10] rfl, Nat.le_succ_of_le hps, oth.mono gc.up0⟩
        walk_at "ev"
        refine r_at (atN (by omega)) ?_
        walk_at "ev"
        refine r_ixn (ixN_at (by rw [List.length_map]; omega)) ?_
        have w1 := zc.set 3 (.lst ((d.U.map V.int).set g (.int (nth d.U g + 1)))) rfl
        change ZJ H _ _ _ _ at w1
        have g1 : Fr [] H'' _ := gc.mut (p := m2) (o := .lst ((d.U.map V.int).set g (.int (nth d.U g + 1)))) x2
        walk_at "ev"
        have rd : RawAt [] _ false D (d.chU g) := ⟨m1, m2, m3, m4, w1.get (.head _), ⟨w1.get (.tail _ (.tail _ (.tail _ (.tail _ (.head _))))), (w1.get (.tail _ (.tail _ (.tail _ (.head _))))).trans (by rw [← List.map_set] <;> rfl), w1.get (.tail _ (.tail _ (.head _))), w1.get (.tail _ (.head _))⟩, nin, nin, nin, nin, nin⟩
        refine ⟨D, false, d.chU g, rfl, rd, ok.chU (by omega), fun p Hp fp np => ?_⟩
        have w2 := w1.same fp
        walk_at "ev"
        have w3 := w2.set 5 (.lst (ps.map V.ref ++ [.ref p])) rfl
        have ex : ∀ x ∈ [f1], ∃ o, upd Hc m2 (.lst ((d.U.map V.int).set g (.int (nth d.U g + 1)))) x = some o := fun x m => by
          rw [List.mem_singleton.mp m]
          exact ⟨_, w1.get (.tail _ (.tail _ (.tail _ (.tail _ (.tail _ (.head _))))))⟩
        have o3 := ((oth.mono (g1.trans fp).up0).snoc (np.2 _ ex) (PD.chU_ne (by omega))).mono ((Fr.refl _).set (p := f1) (o := .lst (ps.map V.ref ++ [.ref p])) (.head _))
        refine ⟨_, _, _, ps ++ [p], rfl, ?_, by rw [List.length_append]; exact Nat.add_le_add_right hps 1, o3⟩
        rw [List.map_append]
        exact w3.sel [5, 6, 7, 8, 9, 10] rfl
    · obtain ⟨u4, u5, u6, ps, rfl, z, hps, oth⟩ := p
      walk_at "ev"
      replace hps : ps.length ≤ 4 := hps
      have e2 : l2 ≠ j := fun e => n2 (by rw [e]; exact List.mem_cons_self)
      have e3 : l3 ≠ j := fun e => n3 (by rw [e]; exact List.mem_cons_self)
      have e4 : l4 ≠ j := fun e => n4 (by rw [e]; exact List.mem_cons_self)
      rw [cut_end (by omega)]
      intro s1 k1
      have y1 := z.alloc (.lst [.int (nth d.L (d.L.length - 1))]) k1
      have i1 := y1.keep h1 e1
      walk_at "ev"
      rw [show d.L.map V.int ++ [V.int (nth d.L (d.L.length - 1))] = d.more.L.map V.int by simp [PD.more]]
      intro s2 k2
      have y2 := y1.alloc (.lst (d.more.L.map V.int)) k2
      have i0 := y2.keep h0 e0
      have i2 := y2.keep h2 e2
      walk_at "ev"
      rw [cut_end (by omega)]
      intro s3 k3
      have y3 := y2.alloc (.lst [.int (nth d.U (d.U.length - 1))]) k3
      have i2 := y3.keep h2 e2
      walk_at "ev"
      rw [show d.U.map V.int ++ [V.int (nth d.U (d.U.length - 1))] = d.more.U.map V.int by simp [PD.more]]
      intro s4 k4
      have y4 := y3.alloc (.lst (d.more.U.map V.int)) k4
      have i0 := y4.keep h0 e0
      walk_at "ev"
      intro s5 k5
      have y5 := y4.alloc (.lst [.int (-9)]) k5
      have i3 := y5.keep h3 e3
      walk_at "ev"
      rw [show d.A.map V.int ++ [V.int (-9)] = d.more.A.map V.int by simp [PD.more]]
      intro s6 k6
      have y6 := y5.alloc (.lst (d.more.A.map V.int)) k6
      have i0 := y6.keep h0 e0
      walk_at "ev"
      intro s7 k7
      have y7 := y6.alloc (.lst [.int (10 ^ Int.toNat 9)]) k7
      have i4 := y7.keep h4 e4
      walk_at "ev"
      rw [show d.B.map V.int ++ [V.int (10 ^ Int.toNat 9)] = d.more.B.map V.int by simp [PD.more]]
      intro s8 k8
      have y8 := y7.alloc (.lst (d.more.B.map V.int)) k8
      have g8 : Fr [] H6 _ := (((((((((Fr.refl H6).new k1).new k2).new k3).new k4).new k5).new k6).new k7).new (o := .lst (d.more.B.map V.int)) k8)
      walk_at "ev"
      refine r_planA (d := d.more) (ok.more hl) (y8.get (.tail _ (.tail _ (.tail _ (.tail _ (.tail _ (.tail _ (.head _)))))))) (y8.get (.tail _ (.tail _ (.tail _ (.tail _ (.head _)))))) (y8.get (.tail _ (.tail _ (.head _)))) (y8.get (.head _)) fun p H9 f9 n9 => ?_
      have y9 := y8.same f9
      walk_at "ev"
      intro s10 k10
      have y10 := y9.alloc (.lst [.ref p]) k10
      walk_at "ev"
      intro t k11
      have y11 := y10.alloc (.lst (ps.map V.ref ++ [.ref p])) k11
      have g11 : Fr [] H9 _ := ((Fr.refl H9).new (o := .lst [.ref p]) k10).new (o := .lst (ps.map V.ref ++ [.ref p])) k11
      walk_at "ev"
      refine k t (ps ++ [p]) _ (y11.fresh _ (.head _)) ((y11.get (.head _)).trans (by rw [List.map_append] <;> rfl)) (by rw [List.length_append]; exact Nat.add_le_add_right (show ps.length ≤ 4 from hps) 1) ((oth.nil.mono ((g8.trans f9).trans g11)).snoc (n9.at.mono g11) PD.more_ne) y11.fr y11.jar
end
set_option Elab.async false
set_option linter.all false
set_option maxRecDepth 100000
set_option maxHeartbeats 4000000
set_option exponentiation.threshold 2000

theorem PlanAt.more {K : PySem.W.Frag} {J S : List Addr} {H : Hp} {p : Addr} {d : PD} (h : PlanAt K J H p d) (hs : ∀ s ∈ S, H s = none) : PlanAt K (J ++ S) H p d := by
  obtain ⟨dx, l1, l2, l3, l4, h0, ⟨h1, h2, h3, h4⟩, n0, n1, n2, n3, n4⟩ := h.ex
  have no : ∀ {a : Addr} {o : HO}, H a = some o → a ∉ J → a ∉ J ++ S := fun e n m => (List.mem_append.mp m).elim n fun c => by
    rw [hs _ c] at e
    cases e
  exact ⟨dx, l1, l2, l3, l4, h0, ⟨h1, h2, h3, h4⟩, no h0 n0, no h1 n1, no h2 n2, no h3 n3, no h4 n4⟩
theorem PlanAt.less {K : PySem.W.Frag} {J S : List Addr} {H : Hp} {p : Addr} {d : PD} (h : PlanAt K (J ++ S) H p d) : PlanAt K J H p d := by
  obtain ⟨dx, l1, l2, l3, l4, h0, h1, n0, n1, n2, n3, n4⟩ := h.ex
  exact ⟨dx, l1, l2, l3, l4, h0, h1, fun m => n0 (List.mem_append_left _ m), fun m => n1 (List.mem_append_left _ m), fun m => n2 (List.mem_append_left _ m), fun m => n3 (List.mem_append_left _ m), fun m => n4 (List.mem_append_left _ m)⟩
theorem RawAt.more {J S : List Addr} {H : Hp} {b : Bool} {r : Addr} {d : PD} (h : RawAt J H b r d) (hs : ∀ s ∈ S, H s = none) : RawAt (J ++ S) H b r d := by
  obtain ⟨l1, l2, l3, l4, h0, ⟨h1, h2, h3, h4⟩, n0, n1, n2, n3, n4⟩ := h.ex
  have no : ∀ {a : Addr} {o : HO}, H a = some o → a ∉ J → a ∉ J ++ S := fun e n m => (List.mem_append.mp m).elim n fun c => by
    rw [hs _ c] at e
    cases e
  have m0 : r ∉ J ++ S := by
    cases b with
    | true => exact no h0 n0
    | false => exact no h0 n0
  exact ⟨l1, l2, l3, l4, h0, ⟨h1, h2, h3, h4⟩, m0, no h1 n1, no h2 n2, no h3 n3, no h4 n4⟩
theorem RawAt.less {J S : List Addr} {H : Hp} {b : Bool} {r : Addr} {d : PD} (h : RawAt (J ++ S) H b r d) : RawAt J H b r d := by
  obtain ⟨l1, l2, l3, l4, h0, h1, n0, n1, n2, n3, n4⟩ := h.ex
  exact ⟨l1, l2, l3, l4, h0, h1, fun m => n0 (List.mem_append_left _ m), fun m => n1 (List.mem_append_left _ m), fun m => n2 (List.mem_append_left _ m), fun m => n3 (List.mem_append_left _ m), fun m => n4 (List.mem_append_left _ m)⟩
def revA {α : Type} (us ws : List α) : List α := us ++ ws.reverse
theorem kb_Plan_most_least_high_low : KwOk "__init__" "Plan.__init__" s_Plan___init__ ["self", "low", "high", "least", "most"] ["most", "least", "high", "low"] 1 revA := fun _ _ _ _ _ _ us ws h1 h2 => match us, ws, h1, h2 with
  | [_], [_, _, _, _], _, _ => rfl
theorem kr_Plan_most_least_high_low {vs : List V} {us : List Value} {zs : List V} {ws : List Value} (h1 : Vals vs us) (h2 : Vals zs ws) : Vals (revA vs zs) (revA us ws) := h1.append h2.reverse
theorem r_makeK {σ : L2.St} {H : Hp} {Q : VK} {C : Addr} {n m : Nat} {sp : Sp} {gV : List V → List V → List V} {E : XK} {t tk : TA}
    (h : t σ H fun vs H1 => tk σ H1 fun zs H2 => vs.length = n ∧ zs.length = m ∧ ∀ x dx, H2 x = none → H2 dx = none → dx ≠ x → sp (gV (.ref x :: vs) zs) (upd (upd H2 dx (.own x)) x (.ins C dx [])) (fun v H3 => v = .non ∧ Q (.ref x) H3) E) : tMakeK C n m sp gV E t tk σ H Q := h
section
variable {P : Program} {w : World} {K : PySem.W.Frag} {mg : Str → Option Value} {base : Heap}
def sp__law_right (K : PySem.W.Frag) : Sp := fun vs H Q _ => ∃ (j r : Addr) (d : PD) (n : Nat), vs = [.ref j, .ref r] ∧ RawAt [j] H true r d ∧ d.Ok ∧ d.Sm ∧ d.L.length ≤ 70 ∧ JarAt H j (n + 1) ∧ ∀ H', Fr [j] H H' → JarAt H' j n → Q (.bl true) H'
theorem k__law_right (T : Tx fa fn K mg base) : FkG P w K mg base "_law_right" ["jar", "raw"] 7 (sp__law_right K) s__law_right "_law_right" := by
  refine T.fkG 21 39 (q := "_law_right") (st := s__law_right) sc__law_right (fun _ _ _ _ _ _ us hl => match us, hl with | [_, _], _ => rfl) (fun vs H Q E h => ?_) (fun cdv A outer s H vs Q E gd hr h => ?_)
  · obtain ⟨j, r, d, n, rfl, _⟩ := h
    rfl
  · obtain ⟨j, r, d, n, rfl, ra, ok, sm, hl, hj, k⟩ := h
    have ra0 := ra
    obtain ⟨l1, l2, l3, l4, h0, ⟨h1, h2, h3, h4⟩, n0, n1, n2, n3, n4⟩ := ra.ex
    have h0 : H r = some (.tup [.ref l1, .ref l2, .ref l3, .ref l4]) := h0
    have one := ok.one
    have lU := ok.lU
    have lA := ok.lA
    have lB := ok.lB
    refine ⟨_, (pss_cons (ps_setLc (i := 2) (own := [("bounds", 5)]) (tt := tYes) (te := (tCB (rListX K) (tCons (tVar 5) tNil))) rfl sc__law_right.nd rfl rfl (sw_true rfl rfl rfl (by decide +kernel)) (pi_tup (pv 1)) (blkOk_by (N := ["jar", "raw", "handed", "made", "due", "bounds", "thing_here"]) (sc := defScope s__law_right) (by decide +kernel)) (fun _ _ _ _ _ => (pg_name (i := 5) sc__law_right.nd rfl (by first | exact Or.inl rfl | exact Or.inr rfl))) (fun _ _ _ _ _ => pts_nil) (fun _ _ _ _ _ => (pe_callTy call_list_of (by rfl) (T.fr 7) (by decide +kernel) (pa_cons (pv 5) pa_nil))))
      (pss_cons (ps_par (i := 3) (j := 4) (by rfl) sc__law_right.nd rfl rfl (by decide) rfl rfl (pa_cons (pe_f (k__law_heap T) hr (pa_cons (pv 2) pa_nil)) (pa_cons (pe_fG (k__law_due T) gd hr (pa_cons (pv 1) pa_nil)) pa_nil)) (by rfl))
      (pss_cons (ps_if (PW.pt (pw_or (pt_cmpR op_ne (pe_fG (k__law_told T) gd hr (pa_cons (pv 3) pa_nil)) (pv 4) (nomark _)) (pw_or1 (pt_not (pt_cmpR (op_eqX (k_Plan___eq__ T) (hr.mono (by decide))) (pv 3) (pe_mkK (k_Plan___init__ T) (T.glo 21) hr (kb_Plan_most_least_high_low) (kr_Plan_most_least_high_low) (pk_cons (pe_ix ix_tup (pv 1) pe_int (fun _ _ => rfl)) (pk_cons (pe_ix ix_tup (pv 1) pe_int (fun _ _ => rfl)) (pk_cons (pe_ix ix_tup (pv 1) pe_int (fun _ _ => rfl)) (pk_cons (pe_ix ix_tup (pv 1) pe_int (fun _ _ => rfl)) pk_nil))))) (nomark _)))))) (pss_one (ps_ret pe_bl)) pss_nil)
      (pss_cons (ps_for PassesOwn.never rfl (pi_list (pe_op op_cat (pv 2) (pe_lst (pa_cons (pe_pr (pv 3) (k_Plan_low T) hr) (pa_cons (pe_pr (pv 3) (k_Plan_high T) hr) (pa_cons (pe_pr (pv 3) (k_Plan_least T) hr) (pa_cons (pe_pr (pv 3) (k_Plan_most T) hr) pa_nil))))))) (pg_name (i := 5) sc__law_right.nd rfl (by first | exact Or.inl rfl | exact Or.inr rfl)) (pss_cons (ps_expr (pe_bm PySem.F.plainAttrs_list PySem.F.slot_list_append PySem.F.type_list_append mt_append (pv 5) (pa_cons pe_int pa_nil)))
      (pss_one (ps_asg (pe_un un_neg pe_int) (pg_sub (pv 5) pe_int set_list)))))
      (pss_cons (ps_if (PW.pt (pw_or (pt_cmpR op_ne (pe_fG (k__law_told T) gd hr (pa_cons (pv 3) pa_nil)) (pv 4) (nomark _)) (pw_or1 (pt_cmpR (op_neX (k_Plan___eq__ T) (T.findB 37) (T.mroI 38) (hr.mono (by decide))) (pv 3) (pe_f (k__law_heap T) hr (pa_cons (pv 1) pa_nil)) (nomark _))))) (pss_one (ps_ret pe_bl)) pss_nil)
      (pss_cons (ps_for PassesOwn.never rfl (pi_list (pe_op op_cat (pe_lst (pa_cons pe_non (pa_cons pe_int (pa_cons pe_bl (pa_cons pe_str (pa_cons (pv 1) (pa_cons (pe_callTy call_list_of (by rfl) (T.fr 7) (by decide +kernel) (pa_cons (pv 1) pa_nil)) (pa_cons pe_dnewK (pa_cons (pe_ix ix_tup (pv 1) pe_int (fun _ _ => rfl)) (pa_cons (pe_lst (pa_cons (pv 3) pa_nil)) pa_nil)))))))))) (pe_f (k__law_others T) hr (pa_cons (pv 0) (pa_cons (pv 1) pa_nil))))) (pg_name (i := 6) sc__law_right.nd rfl (by first | exact Or.inl rfl | exact Or.inr rfl)) (pss_one (ps_if (PW.pt (pw_or (pt_cmpR (op_eqX (k_Plan___eq__ T) (hr.mono (by decide))) (pv 3) (pv 6) (nomark _)) (pw_or1 (pt_not (pt_cmpR (op_neX (k_Plan___eq__ T) (T.findB 37) (T.mroI 38) (hr.mono (by decide))) (pv 3) (pv 6) (nomark _)))))) (pss_one (ps_ret pe_bl)) pss_nil)))
      (pss_one (ps_ret (pe_and (pe_cmpR (op_eqX (k_Plan___eq__ T) (hr.mono (by decide))) (pv 3) (pv 3) (nomark _)) (pe_one (pe_cmpR op_eq (pe_fG (k__law_told T) gd hr (pa_cons (pv 3) pa_nil)) (pv 4) (nomark _)))))))))))), ?_⟩
    walk_at "ev0"
    refine lc_copies (ZJ.start hj) ok h0 h1 h2 h3 h4 (fun _ => rfl) (fun _ => rfl) (fun D m1 m2 m3 m4 Hc zc gc xs => ?_)
    walk_at "ev"
    have rdc : RawAt [] Hc false D d := ⟨m1, m2, m3, m4, zc.get (.head _), ⟨zc.get (.tail _ (.tail _ (.tail _ (.tail _ (.head _))))), zc.get (.tail _ (.tail _ (.tail _ (.head _)))), zc.get (.tail _ (.tail _ (.head _))), zc.get (.tail _ (.head _))⟩, nin, nin, nin, nin, nin⟩
    refine ⟨D, false, d, rfl, rdc, ok, fun p H1 f1 np => ?_⟩
    have z1 := zc.same f1
    have g1 := gc.trans f1
    walk_at "ev"
    refine ⟨r, d, rfl, ra.nil.mono g1, ok, sm, hl, fun H2 f2 => ?_⟩
    have z2 := z1.same f2
    have g2 := g1.trans f2
    walk_at "ev"
    refine ⟨p, d, rfl, np.at.mono f2, ok, sm, hl, fun H3 f3 => ?_⟩
    have z3 := z2.same f3
    have g3 := g2.trans f3
    walk_at "ev"
    rw [decide_eq_true rfl]
    walk_at "ev"
    have i0 := g3 _ _ nin h0
    have i1 := g3 _ _ nin h1
    have i2 := g3 _ _ nin h2
    have i3 := g3 _ _ nin h3
    have i4 := g3 _ _ nin h4
    refine r_makeK ?_
    walk_at "ev"
    refine ⟨rfl, rfl, ?_⟩
    refine r_planA (d := d) ok i1 i2 i3 i4 fun q H4 f4 n4' => ?_
    have z4 := z3.same f4
    have g4 := g3.trans f4
    refine r_eqX (np.at.mono ((f2.trans f3).trans f4)) n4'.at ?_
    rw [decide_eq_true rfl]
    walk_at "ev"
    obtain ⟨x0, x1, x2, x3, x4⟩ := xs
    have exm : ∀ x ∈ [j] ++ [m1, m2, m3, m4], ∃ o, Hc x = some o := by
      intro x hx
      simp only [List.mem_append, List.mem_cons, List.not_mem_nil, or_false] at hx
      rcases hx with rfl | rfl | rfl | rfl | rfl
      · exact zc.jar.some
      · exact ⟨_, zc.get (.tail _ (.tail _ (.tail _ (.tail _ (.head _)))))⟩
      · exact ⟨_, zc.get (.tail _ (.tail _ (.tail _ (.head _))))⟩
      · exact ⟨_, zc.get (.tail _ (.tail _ (.head _)))⟩
      · exact ⟨_, zc.get (.tail _ (.head _))⟩
    have f14 := (f2.trans f3).trans f4
    have pm4 : PlanAt K ([j] ++ [m1, m2, m3, m4]) H4 p d := (np.2 _ exm).mono f14.up0
    have fc4 : Fr [] Hc H4 := f1.trans f14
    have gD := fc4 _ _ nin (zc.get (.head _))
    have gm4 := fc4 _ _ nin (zc.get (.tail _ (.head _)))
    have gm3 := fc4 _ _ nin (zc.get (.tail _ (.tail _ (.head _))))
    have gm2 := fc4 _ _ nin (zc.get (.tail _ (.tail _ (.tail _ (.head _)))))
    have gm1 := fc4 _ _ nin (zc.get (.tail _ (.tail _ (.tail _ (.tail _ (.head _))))))
    have pd := pm4.nil
    obtain ⟨dx, p1, p2, p3, p4, q0, _⟩ := pd.ex
    refine r_exp q0 ⟨p, d, rfl, pd, fun s1 k1 => ?_⟩
    have y1 := (Z.start0 H4).alloc (.lst (d.L.map V.int)) k1
    walk_at "ev"
    refine r_exp (y1.keep q0 (by simp)) ⟨p, d, rfl, pd.mono (y1.fr0 (by simp)), fun s2 k2 => ?_⟩
    have y2 := y1.alloc (.lst (d.U.map V.int)) k2
    walk_at "ev"
    refine r_exp (y2.keep q0 (by simp)) ⟨p, d, rfl, pd.mono (y2.fr0 (by simp)), fun s3 k3 => ?_⟩
    have y3 := y2.alloc (.lst (d.A.map V.int)) k3
    walk_at "ev"
    refine r_exp (y3.keep q0 (by simp)) ⟨p, d, rfl, pd.mono (y3.fr0 (by simp)), fun s4 k4 => ?_⟩
    have y4 := y3.alloc (.lst (d.B.map V.int)) k4
    walk_at "ev"
    intro t5 k5
    have y5 := y4.alloc (.lst [.ref s1, .ref s2, .ref s3, .ref s4]) k5
    have gD' := y5.keep gD (by simp)
    walk_at "ev"
    intro t6 k6
    have ex5 : ∀ s ∈ [m1, m2, m3, m4] ++ [s1, s2, s3, s4], s ≠ t6 := by
      intro x hx e
      simp only [List.mem_append, List.mem_cons, List.not_mem_nil, or_false] at hx
      have f5 := y5.fr0 (by simp)
      rw [← e] at k6
      have no : ∀ {o : HO}, (upd (upd (upd (upd (upd H4 s1 (.lst (d.L.map V.int))) s2 (.lst (d.U.map V.int))) s3 (.lst (d.A.map V.int))) s4 (.lst (d.B.map V.int))) t5 (.lst [.ref s1, .ref s2, .ref s3, .ref s4])) x = some o → False := fun h => by
        rw [k6] at h
        cases h
      rcases hx with (rfl | rfl | rfl | rfl) | (rfl | rfl | rfl | rfl)
      · exact no (f5 _ _ nin gm1)
      · exact no (f5 _ _ nin gm2)
      · exact no (f5 _ _ nin gm3)
      · exact no (f5 _ _ nin gm4)
      · exact no (y5.get (.tail _ (.tail _ (.tail _ (.tail _ (.head _))))))
      · exact no (y5.get (.tail _ (.tail _ (.tail _ (.head _)))))
      · exact no (y5.get (.tail _ (.tail _ (.head _))))
      · exact no (y5.get (.tail _ (.head _)))
    have y6 := y5.alloc (.lst ([.ref m1, .ref m2, .ref m3, .ref m4] ++ [.ref s1, .ref s2, .ref s3, .ref s4])) k6
    generalize upd (upd (upd (upd (upd (upd H4 s1 (.lst (d.L.map V.int))) s2 (.lst (d.U.map V.int))) s3 (.lst (d.A.map V.int))) s4 (.lst (d.B.map V.int))) t5 (.lst [.ref s1, .ref s2, .ref s3, .ref s4])) t6 (.lst ([.ref m1, .ref m2, .ref m3, .ref m4] ++ [.ref s1, .ref s2, .ref s3, .ref s4])) = Hl at y6 ⊢
    have fl : Fr [] H4 Hl := y6.fr0 (by simp)
    have ss : ∀ s ∈ [s1, s2, s3, s4], H4 s = none := by
      intro x hx
      simp only [List.mem_cons, List.not_mem_nil, or_false] at hx
      rcases hx with rfl | rfl | rfl | rfl
      · exact y6.fresh (2, _, _) (.tail _ (.tail _ (.tail _ (.tail _ (.tail _ (.head _)))))) rfl
      · exact y6.fresh (2, _, _) (.tail _ (.tail _ (.tail _ (.tail _ (.head _))))) rfl
      · exact y6.fresh (2, _, _) (.tail _ (.tail _ (.tail _ (.head _)))) rfl
      · exact y6.fresh (2, _, _) (.tail _ (.tail _ (.head _))) rfl
    have back : ∀ {s : Addr}, H4 s = none → H s = none := fun {s} e => by
      cases c : H s with
      | none => rfl
      | some o =>
        rw [g4 _ _ nin c] at e
        cases e
    have js : ∀ s ∈ [m1, m2, m3, m4] ++ [s1, s2, s3, s4], H s = none := by
      intro x hx
      rcases List.mem_append.mp hx with h | h
      · simp only [List.mem_cons, List.not_mem_nil, or_false] at h
        rcases h with rfl | rfl | rfl | rfl <;> assumption
      · exact back (ss x h)
    have at8 : ∀ s ∈ [m1, m2, m3, m4] ++ [s1, s2, s3, s4], ∃ ys, Hl s = some (.lst ys) ∧ 0 < ys.length ∧ ys.length ≤ 200 := by
      intro x hx
      simp only [List.mem_append, List.mem_cons, List.not_mem_nil, or_false] at hx
      have q1 : 0 < (d.L.map V.int).length ∧ (d.L.map V.int).length ≤ 200 := by rw [List.length_map]; omega
      have q2 : 0 < (d.U.map V.int).length ∧ (d.U.map V.int).length ≤ 200 := by rw [List.length_map]; omega
      have q3 : 0 < (d.A.map V.int).length ∧ (d.A.map V.int).length ≤ 200 := by rw [List.length_map]; omega
      have q4 : 0 < (d.B.map V.int).length ∧ (d.B.map V.int).length ≤ 200 := by rw [List.length_map]; omega
      rcases hx with (rfl | rfl | rfl | rfl) | (rfl | rfl | rfl | rfl)
      · exact ⟨_, fl _ _ nin gm1, q1⟩
      · exact ⟨_, fl _ _ nin gm2, q2⟩
      · exact ⟨_, fl _ _ nin gm3, q3⟩
      · exact ⟨_, fl _ _ nin gm4, q4⟩
      · exact ⟨_, y6.get (.tail _ (.tail _ (.tail _ (.tail _ (.tail _ (.head _)))))), q1⟩
      · exact ⟨_, y6.get (.tail _ (.tail _ (.tail _ (.tail _ (.head _))))), q2⟩
      · exact ⟨_, y6.get (.tail _ (.tail _ (.tail _ (.head _)))), q3⟩
      · exact ⟨_, y6.get (.tail _ (.tail _ (.head _))), q4⟩
    have g6 := y6.get (.head _)
    have pmJ : PlanAt K ([j] ++ ([m1, m2, m3, m4] ++ [s1, s2, s3, s4])) Hl p d := (pm4.more ss).mono fl.up0
    have nt6 : t6 ∉ [m1, m2, m3, m4] ++ [s1, s2, s3, s4] := fun m => ex5 _ m rfl
    clear ex5 ss y1 y2 y3 y4 y5 gm1 gm2 gm3 gm4 gD gD' k1 k2 k3 k4 k5 k6
    have GJ : Fr [] H Hl := g4.trans fl
    have njJ : j ∉ [m1, m2, m3, m4] ++ [s1, s2, s3, s4] := fun m => by
      obtain ⟨o, e⟩ := hj.some
      rw [js j m] at e
      cases e
    have rawJ : RawAt ([j] ++ ([m1, m2, m3, m4] ++ [s1, s2, s3, s4])) Hl true r d := (ra.more js).mono GJ.up0
    have jarJ := hj.fr GJ
    generalize hJ : [m1, m2, m3, m4] ++ [s1, s2, s3, s4] = J at *
    walk_at "ev"
    have memJ : ∀ (i : Nat) (x : V), ([V.ref m1, V.ref m2, V.ref m3, V.ref m4] ++ [V.ref s1, V.ref s2, V.ref s3, V.ref s4])[i]? = some x → ∃ b, x = .ref b ∧ b ∈ J := fun i x h => by
      have h2 : ((([m1, m2, m3, m4] ++ [s1, s2, s3, s4]).map V.ref)[i]?) = some x := h
      rw [hJ, List.getElem?_map] at h2
      obtain ⟨b, e1, e2⟩ := Option.map_eq_some_iff.mp h2
      exact ⟨b, e2.symm, List.mem_of_getElem? e1⟩
    refine for_it (walk_list (xs := [.ref m1, .ref m2, .ref m3, .ref m4] ++ [.ref s1, .ref s2, .ref s3, .ref s4])) (fun i σ H' => ∃ u5 : Option V, σ = [some (.ref j), some (.ref r), some (.ref D), some (.ref p), some (.str (tell d).shown), u5, none] ∧ Fr J Hl H' ∧
      ∀ s ∈ J, ∃ ys, H' s = some (.lst ys) ∧ 0 < ys.length ∧ ys.length ≤ 200 + i) ⟨none, rfl, Fr.refl _, at8⟩ (fun i σ H' _ p => by obtain ⟨_, _, f, _⟩ := p; exact SqL.of (f _ _ nt6 g6)) (fun i x σ H' H'' hi p y => ?_) (fun σ H7 p => ?_)
    · obtain ⟨u5, rfl, f, lists⟩ := p
      obtain ⟨rfl, hx⟩ := y
      obtain ⟨b, rfl, hb⟩ := memJ _ _ hx
      obtain ⟨ys, hb2, hy1, hy2⟩ := lists b hb
      replace hi : i < 8 := hi
      walk_at "ev"
      refine r_app hb2 (smalllt' (by omega)) ?_
      walk_at "ev"
      refine r_ixn (m := 0) ?_ ?_
      · exact ixN_at (i := 0) (by rw [List.length_append]; exact Nat.lt_of_lt_of_le hy1 (Nat.le_add_right ..))
      refine ⟨_, rfl, (f.set hb).set hb, fun s hs => ?_⟩
      by_cases e : s = b
      · subst e
        exact ⟨_, upd_same, by rw [List.length_set, List.length_append]; exact Nat.lt_of_lt_of_le hy1 (Nat.le_add_right ..), by rw [List.length_set, List.length_append, List.length_singleton]; omega⟩
      · obtain ⟨zs, e1, e2, e3⟩ := lists s hs
        exact ⟨zs, by rw [upd_ne e, upd_ne e]; exact e1, e2, by omega⟩
    obtain ⟨u5, rfl, F7, lists⟩ := p
    have pd7 := (pmJ.mono (F7.up fun x m => List.mem_append_right _ m)).less
    have raw7 : RawAt [j] H7 true r d := (rawJ.mono (F7.up fun x m => List.mem_append_right _ m)).less
    have jar7 : JarAt H7 j (n + 1) := by
      obtain ⟨q1, q2, q3, e, o⟩ := jarJ
      exact ⟨q1, q2, q3, F7 _ _ njJ e, o⟩
    have F07 : Fr [j] H H7 := fun x o hx e => by
      refine F7 x o (fun m => ?_) (GJ x o nin e)
      rw [js x m] at e
      cases e
    clear pmJ rawJ jarJ GJ F7 lists at8 g6 memJ js
    walk_at "ev"
    refine ⟨p, d, rfl, pd7.nil, ok, sm, hl, fun H8 f8 => ?_⟩
    walk_at "ev"
    rw [decide_eq_true rfl]
    walk_at "ev"
    refine ⟨r, true, d, rfl, raw7.nil.mono f8, ok, fun q9 H9 f9 n9 => ?_⟩
    walk_at "ev"
    refine r_neX (pd7.nil.mono (f8.trans f9)) n9.at ?_
    rw [decide_eq_true rfl]
    have f89 := f8.trans f9
    have pd9 := pd7.mono f89.up0
    have raw9 := raw7.mono f89.up0
    have jar9 := jar7.fr f89
    have F09 := F07.trans f89.up0
    obtain ⟨r1, r2, r3, r4, i0, ⟨i1, _⟩, _, nr1, _⟩ := raw9.ex
    have i0 : H9 r = some (.tup [.ref r1, .ref r2, .ref r3, .ref r4]) := i0
    walk_at "ev"
    intro s1 c1
    have y1 := (Z.start0 H9).alloc (.lst [.ref r1, .ref r2, .ref r3, .ref r4]) c1
    walk_at "ev"
    intro s2 c2
    have y2 := y1.alloc (.dK []) c2
    have i0' := y2.keep i0 (by simp)
    walk_at "ev"
    intro s3 c3
    have y3 := y2.alloc (.lst [.ref p]) c3
    walk_at "ev"
    intro s4 c4
    have y4 := y3.alloc (.lst [.non, .int 3, .bl true, .str "", .ref r, .ref s1, .ref s2, .ref r1, .ref s3]) c4
    have g4' := y4.fr0 (by simp)
    have ny4 : s4 ≠ j := (jar9.fr (y3.fr0 (by simp))).ne c4
    walk_at "ev"
    refine ⟨j, r, d, n, rfl, raw9.mono g4'.up0, ok, by omega, jar9.fr g4', fun t ps H10 t0 t1 tl oth f10 jar10 => ?_⟩
    have jex := jar9.fr g4'
    have kp : ∀ {x : Addr} {o : HO}, x ≠ j → (upd (upd (upd (upd H9 s1 (.lst [.ref r1, .ref r2, .ref r3, .ref r4])) s2 (.dK [])) s3 (.lst [.ref p])) s4 (.lst [.non, .int 3, .bl true, .str "", .ref r, .ref s1, .ref s2, .ref r1, .ref s3])) x = some o → H10 x = some o := fun h e => f10 _ _ (by simpa using h) e
    have i4 := kp ny4 (y4.get (.head _))
    walk_at "ev"
    intro t5 c5
    have f5 : Fr [] H10 (upd H10 t5 (.lst ([.non, .int 3, .bl true, .str "", .ref r, .ref s1, .ref s2, .ref r1, .ref s3] ++ ps.map V.ref))) := (Fr.refl _).new c5
    have g5 : (upd H10 t5 (.lst ([.non, .int 3, .bl true, .str "", .ref r, .ref s1, .ref s2, .ref r1, .ref s3] ++ ps.map V.ref))) t5 = some (.lst ([.non, .int 3, .bl true, .str "", .ref r, .ref s1, .ref s2, .ref r1, .ref s3] ++ ps.map V.ref)) := upd_same
    generalize upd H10 t5 (.lst ([.non, .int 3, .bl true, .str "", .ref r, .ref s1, .ref s2, .ref r1, .ref s3] ++ ps.map V.ref)) = H11 at f5 g5 ⊢
    have oth' := oth.mono f5
    have jar11 := jar10.fr f5
    have F11 : Fr [j] H H11 := ((F09.trans g4'.up0).trans f10).trans f5.up0
    have kp' : ∀ {x : Addr} {o : HO}, x ≠ j → (upd (upd (upd (upd H9 s1 (.lst [.ref r1, .ref r2, .ref r3, .ref r4])) s2 (.dK [])) s3 (.lst [.ref p])) s4 (.lst [.non, .int 3, .bl true, .str "", .ref r, .ref s1, .ref s2, .ref r1, .ref s3])) x = some o → H11 x = some o := fun h e => f5 _ _ nin (kp h e)
    have ne_ : ∀ {x : Addr}, H9 x = none → x ≠ j := fun h e => by
      obtain ⟨o, ho⟩ := jar9.some
      rw [e, ho] at h
      cases h
    have rj : r ≠ j := fun e => n0 (by rw [e]; exact List.mem_cons_self)
    have r1j : r1 ≠ j := fun e => nr1 (by rw [e]; exact List.mem_cons_self)
    have pd11 : PlanAt K [] H11 p d := (((pd9.mono g4'.up0).mono f10).mono f5.up0).nil
    have lst_ : ∀ {x : Addr} {xs : List V}, H11 x = some (.lst xs) → Odd K H11 (.ref x) := fun h => ⟨"list", .lst (SqL.of h), .list, .base (.lst h)⟩
    have per : ∀ (i : Nat) (x : V), ([.non, .int 3, .bl true, .str "", .ref r, .ref s1, .ref s2, .ref r1, .ref s3] ++ ps.map V.ref)[i]? = some x → Odd K H11 x ∨ ∃ q e, x = .ref q ∧ PlanAt K [] H11 q e ∧ e ≠ d := by
      intro i x h
      have m := List.mem_of_getElem? h
      rcases List.mem_append.mp m with m | m
      · refine .inl ?_
        simp only [List.mem_cons, List.not_mem_nil, or_false] at m
        rcases m with rfl | rfl | rfl | rfl | rfl | rfl | rfl | rfl | rfl
        · exact ⟨"NoneType", .non, .none, .base .non⟩
        · exact ⟨"int", .int 3, .int, .base (.int 3)⟩
        · exact ⟨"bool", .bl true, .bool, .base (.bl true)⟩
        · exact ⟨"str", .str _, .str, .base (.str _)⟩
        · exact ⟨"tuple", .tup (SqT.of (kp' rj (g4' _ _ nin i0))), .tuple, .base (.tup (kp' rj (g4' _ _ nin i0)))⟩
        · exact lst_ (kp' (ne_ (y4.fresh (2, s1, _) (.tail _ (.tail _ (.tail _ (.head _)))) rfl)) (y4.get (.tail _ (.tail _ (.tail _ (.head _))))))
        · have h2 := kp' (ne_ (y4.fresh (2, s2, _) (.tail _ (.tail _ (.head _))) rfl)) (y4.get (.tail _ (.tail _ (.head _))))
          exact ⟨"dict", .dK h2, .dict, .base (.dK h2)⟩
        · exact lst_ (kp' r1j (g4' _ _ nin i1))
        · exact lst_ (kp' (ne_ (y4.fresh (2, s3, _) (.tail _ (.head _)) rfl)) (y4.get (.tail _ (.head _))))
      · obtain ⟨q, hq, rfl⟩ := List.mem_map.mp m
        obtain ⟨e, pe, ne⟩ := oth' q hq
        exact .inr ⟨q, e, rfl, pe, ne⟩
    walk_at "ev"
    refine for_it (walk_list (xs := [.non, .int 3, .bl true, .str "", .ref r, .ref s1, .ref s2, .ref r1, .ref s3] ++ ps.map V.ref)) (fun i σ H' => ∃ u6 : Option V, σ = [some (.ref j), some (.ref r), some (.ref D), some (.ref p), some (.str (tell d).shown), u5, u6] ∧ H' = H11) ⟨none, rfl, rfl⟩
      (fun i σ H' _ p => by obtain ⟨_, _, rfl⟩ := p; exact SqL.of g5) (fun i x σ H' H'' hi p y => ?_) (fun σ H12 p => ?_)
    · obtain ⟨u6, rfl, rfl⟩ := p
      obtain ⟨rfl, hx⟩ := y
      rcases per i x hx with o | ⟨q, e, rfl, pe, ne⟩
      · walk_at "ev"
        refine r_eqO T pd11 o ?_
        walk_at "ev"
        refine r_neO T pd11 o ?_
        walk_at "ev"
        exact ⟨_, rfl, rfl⟩
      · walk_at "ev"
        refine r_eqX pd11 pe ?_
        rw [decide_eq_false fun h => ne h.symm]
        walk_at "ev"
        refine r_neX pd11 pe ?_
        rw [decide_eq_false fun h => ne h.symm]
        walk_at "ev"
        exact ⟨_, rfl, rfl⟩
    obtain ⟨u6, rfl, rfl⟩ := p
    walk_at "ev"
    refine r_eqX pd11 pd11 ?_
    rw [decide_eq_true rfl]
    walk_at "ev"
    refine ⟨p, d, rfl, pd11, ok, sm, hl, fun H13 f13 => ?_⟩
    walk_at "ev"
    rw [decide_eq_true rfl]
    exact k _ (F11.trans f13.up0) (jar11.fr f13)
end
set_option Elab.async false
set_option linter.all false
set_option maxRecDepth 100000
set_option maxHeartbeats 4000000
set_option exponentiation.threshold 2000

/-- n times the same -/
def rep (n : Nat) (x : Int) : List Int := List.replicate n x
theorem rep_len {n : Nat} {x : Int} : (rep n x).length = n := List.length_replicate ..
theorem rep_nth {n i : Nat} {x : Int} (h : i < n) : nth (rep n x) i = x := by
  unfold rep nth
  rw [List.getD_eq_getElem?_getD, List.getElem?_replicate, if_pos h]
  rfl
theorem rep_flat {n : Nat} {x : Int} : (List.replicate n [V.int x]).flatten = (rep n x).map V.int := by
  unfold rep
  induction n with
  | zero => rfl
  | succ n ih => rw [List.replicate_succ, List.flatten_cons, ih, List.replicate_succ, List.map_cons] <;> rfl
theorem r_repI {H : Hp} {Q : VK} {l : Addr} {x k : Int} (n : Nat) (h : H l = some (.lst [.int x])) (e : k = (n : Int)) (hn : n ≤ 1000) (q : ∀ p, H p = none → Q (.ref p) (upd H p (.lst ((rep n x).map V.int)))) : rRep (.ref l) (.int k) H Q := by
  refine ⟨l, k, _, rfl, rfl, h, by omega, by omega, Nat.le_trans (show 1 * k.toNat ≤ 100000 by omega) (by decide), fun p hp => ?_⟩
  rw [show k.toNat = n by omega, rep_flat]
  exact q p hp
def zero200 : PD := ⟨rep 200 0, rep 200 0, rep 200 0, rep 200 0⟩
def one200 : PD := ⟨rep 200 0, rep 200 0, rep 200 0, rep 199 0 ++ [1]⟩
theorem zero200_ok : zero200.Ok := ⟨by decide, by decide, rfl, rfl, rfl, fun _ _ => Int.le_refl _, fun _ _ => Int.le_refl _, rfl⟩
theorem one200_ok : one200.Ok := by
  refine ⟨by decide, by decide, rfl, rfl, by decide, fun _ _ => Int.le_refl _, fun i hi => ?_, rfl⟩
  replace hi : i < 200 := hi
  show nth (rep 200 0) i ≤ nth (rep 199 0 ++ [1]) i
  rw [rep_nth hi]
  by_cases c : i < 199
  · rw [app_l (by rw [rep_len]; exact c), rep_nth c]
    exact Int.le_refl _
  · rw [nth_app_at (by rw [rep_len]; omega)]
    decide
theorem zero_ne_one : zero200 ≠ one200 := fun e => by
  have h : nth (rep 200 0) 199 = nth (rep 199 0 ++ [1]) 199 := congrArg (fun d : PD => nth d.B 199) e
  rw [rep_nth (by decide), nth_app_at (by rw [rep_len])] at h
  cases h
def lone : PD := ⟨[-5], [-5], [-(10 ^ 29)], [10 ^ 29]⟩
theorem lone_ok : lone.Ok := ⟨by decide, by decide, rfl, rfl, rfl, by decide, fun i hi => by
  have : i = 0 := by
    have : i < 1 := hi
    omega
  subst this
  show -(10 ^ 29) ≤ (10 : Int) ^ 29
  decide +kernel, rfl⟩
section
variable {P : Program} {w : World} {K : PySem.W.Frag} {mg : Str → Option Value} {base : Heap}
def sp_law (K : PySem.W.Frag) : Sp := fun vs H Q _ => ∃ (a : Addr) (ns : List Int), vs = [.ref a] ∧ SqL K H a (ns.map V.int) ∧ ns.length ≤ 63 ∧ ∀ H', Q (.bl true) H'
theorem k_law (T : Tx fa fn K mg base) : FkG P w K mg base "law" ["script"] 8 (sp_law K) s_law "law" := by
  refine T.fkG 22 40 (q := "law") (st := s_law) sc_law (fun _ _ _ _ _ _ us hl => match us, hl with | [_], _ => rfl) (fun vs H Q E h => ?_) (fun cdv A outer s H vs Q E gd hr h => ?_)
  · obtain ⟨a, ns, rfl, _⟩ := h
    rfl
  · obtain ⟨a, ns, rfl, hs, hl, k⟩ := h
    have hlen : (ns.map V.int).length = ns.length := List.length_map _
    refine ⟨_, (pss_cons (ps_for PassesOwn.never rfl (pi_range1 (by rfl) (T.fr 29) (pa_cons (pe_callB (call_max2 rfl) (by rfl) (T.fr 23) (by decide +kernel) (pa_cons pe_int (pa_cons (pe_callB (call_min2 rfl) (by rfl) (T.fr 28) (by decide +kernel) (pa_cons pe_int (pa_cons (pe_callB call_len_seq (by rfl) (T.fr 5) (by decide +kernel) (pa_cons (pv 0) pa_nil)) pa_nil))) pa_nil))) pa_nil)) (pg_name (i := 1) sc_law.nd rfl (by first | exact Or.inl rfl | exact Or.inr rfl)) (pss_cons (ps_set (i := 2) sc_law.nd rfl (by first | exact Or.inl rfl | exact Or.inr rfl) (pe_f (k__law_jar T) hr (pa_cons (pv 0) (pa_cons (pv 1) pa_nil))))
      (pss_one (ps_for PassesOwn.never rfl (pi_range1 (by rfl) (T.fr 29) (pa_cons pe_int pa_nil)) (pg_name (i := 3) sc_law.nd rfl (by first | exact Or.inl rfl | exact Or.inr rfl)) (pss_one (ps_if (PW.pt (pw_or (pt_not (pt_val (pe_fG (k__law_right T) gd hr (pa_cons (pv 2) (pa_cons (pe_f (k__law_small T) hr (pa_cons (pv 2) (pa_cons pe_int pa_nil))) pa_nil))))) (pw_or1 (pt_not (pt_val (pe_fG (k__law_right T) gd hr (pa_cons (pv 2) (pa_cons (pe_f (k__law_great T) hr (pa_cons (pv 2) (pa_cons pe_int pa_nil))) pa_nil)))))))) (pss_one (ps_ret pe_bl)) pss_nil))))))
      (pss_cons (ps_set (i := 4) sc_law.nd rfl (by first | exact Or.inl rfl | exact Or.inr rfl) (pe_mk (k_Plan___init__ T) (T.glo 21) hr (pa_cons (pe_op op_rep (pe_lst (pa_cons pe_int pa_nil)) pe_int) (pa_cons (pe_op op_rep (pe_lst (pa_cons pe_int pa_nil)) pe_int) (pa_cons (pe_op op_rep (pe_lst (pa_cons pe_int pa_nil)) pe_int) (pa_cons (pe_op op_rep (pe_lst (pa_cons pe_int pa_nil)) pe_int) pa_nil))))))
      (pss_cons (ps_if (pt_cmpR (op_eqX (k_Plan___eq__ T) (hr.mono (by decide))) (pv 4) (pe_mk (k_Plan___init__ T) (T.glo 21) hr (pa_cons (pe_op op_rep (pe_lst (pa_cons pe_int pa_nil)) pe_int) (pa_cons (pe_op op_rep (pe_lst (pa_cons pe_int pa_nil)) pe_int) (pa_cons (pe_op op_rep (pe_lst (pa_cons pe_int pa_nil)) pe_int) (pa_cons (pe_op op_cat (pe_op op_rep (pe_lst (pa_cons pe_int pa_nil)) pe_int) (pe_lst (pa_cons pe_int pa_nil))) pa_nil))))) (nomark _)) (pss_one (ps_ret pe_bl)) pss_nil)
      (pss_one (ps_ret (pe_and (pe_cmpR op_eq (pe_callB (cr_lenP (k_Plan___len__ T) (hr.mono (by decide))) (by rfl) (T.fr 5) (by decide +kernel) (pa_cons (pv 4) pa_nil)) pe_int (nomark _)) (pe_one (pe_cmpR op_eq (pe_pr (pe_mk (k_Plan___init__ T) (T.glo 21) hr (pa_cons (pe_lst (pa_cons (pe_un un_neg pe_int) pa_nil)) (pa_cons (pe_lst (pa_cons (pe_un un_neg pe_int) pa_nil)) (pa_cons (pe_lst (pa_cons (pe_un un_neg (pe_op op_powW pe_int pe_int)) pa_nil)) (pa_cons (pe_lst (pa_cons (pe_op op_powW pe_int pe_int) pa_nil)) pa_nil))))) (k_Plan_total T) hr) (pe_un un_neg pe_int) (nomark _))))))))), ?_⟩
    walk_at "ev0"
    refine ⟨by split <;> split <;> omega, by split <;> split <;> omega, ?_⟩
    have five : (if (1 : Int) < (if ((ns.map V.int).length : Int) < 5 then ((ns.map V.int).length : Int) else 5) then (if ((ns.map V.int).length : Int) < 5 then ((ns.map V.int).length : Int) else 5) else 1).toNat ≤ 5 := by
      split <;> split <;> omega
    refine for_it (walk_range (lo := 0)) (fun i σ H' => ∃ u1 u2 u3 : Option V, σ = [some (.ref a), u1, u2, u3, none] ∧ Fr [] H H') ⟨none, none, none, rfl, Fr.refl H⟩ (fun _ _ _ _ _ => trivial) (fun i x σ H1 H1' hi p y => ?_) (fun σ H1 p => ?_)
    · obtain ⟨u1, u2, u3, rfl, f1⟩ := p
      obtain ⟨rfl, rfl⟩ := y
      have hi' : i < 5 := Nat.lt_of_lt_of_le hi five
      walk_at "ev"
      refine ⟨a, ns, _, rfl, f1.sql hs nin, ⟨by omega, by omega⟩, fun j H2 hj f2 J2 => ?_⟩
      walk_at "ev"
      refine ⟨by decide, by decide, ?_⟩
      have f2' := f1.trans f2
      have hj0 : H j = none := by
        cases e : H j with
        | none => rfl
        | some o =>
          rw [f1 _ _ nin e] at hj
          cases hj
      refine for_it (walk_range (lo := 0) (n := 3)) (fun i2 σ H' => ∃ u3 : Option V, σ = [some (.ref a), some (.int (0 + (i : Int))), some (.ref j), u3, none] ∧ Fr [] H H' ∧ JarAt H' j (20000 + 10000 * (3 - i2))) ⟨u3, rfl, f2', J2.le (by decide)⟩ (fun _ _ _ _ _ => trivial) (fun i2 x σ H3 H3' hi2 p y => ?_) (fun σ H3 p => ?_)
      · obtain ⟨u3, rfl, f3, J3⟩ := p
        obtain ⟨rfl, rfl⟩ := y
        walk_at "ev"
        refine ⟨j, 6, 20000 + 10000 * (3 - i2) - 1000, rfl, J3.le (by omega), by decide, fun t l1 l2 l3 l4 d ms H4 f4 J4 n4 r4 h4 => ?_⟩
        walk_at "ev"
        have ra4 : RawAt [j] H4 true t d := n4.raw fun x m => by
          rw [List.mem_singleton.mp m]
          exact J3.some
        refine ⟨j, t, d, 20000 + 10000 * (3 - i2) - 1001, rfl, ra4, r4.ok h4.1 (by omega), r4.sm (by omega), by have := r4.lL; omega, J4.le (by omega), fun H5 f5 J5 => ?_⟩
        walk_at "ev"
        refine ⟨j, 12, 20000 + 10000 * (3 - i2) - 3001, rfl, J5.le (by omega), by decide, fun t l1 l2 l3 l4 d ms H6 f6 J6 n6 r6 h6 => ?_⟩
        walk_at "ev"
        have ra6 : RawAt [j] H6 true t d := n6.raw fun x m => by
          rw [List.mem_singleton.mp m]
          exact J5.some
        refine ⟨j, t, d, 20000 + 10000 * (3 - i2) - 3002, rfl, ra6, r6.ok (by omega) (by omega), r6.sm (by omega), by have := r6.lL; omega, J6.le (by omega), fun H7 f7 J7 => ?_⟩
        walk_at "ev"
        exact ⟨_, rfl, f3.drop (((f4.trans f5).trans f6).trans f7) hj0, J7.le (by omega)⟩
      · obtain ⟨u3, rfl, f3, _⟩ := p
        exact ⟨_, _, _, rfl, f3⟩
    · obtain ⟨u1, u2, u3, rfl, f1⟩ := p
      walk_at "ev"
      intro s1 k1
      have z1 := (Z.start0 H1).alloc (.lst [.int 0]) k1
      walk_at "ev"
      refine r_repI 200 (z1.get (.head _)) rfl (by decide) ?_
      intro s2 k2
      have z2 := z1.alloc (.lst ((rep 200 0).map V.int)) k2
      walk_at "ev"
      intro s3 k3
      have z3 := z2.alloc (.lst [.int 0]) k3
      walk_at "ev"
      refine r_repI 200 (z3.get (.head _)) rfl (by decide) ?_
      intro s4 k4
      have z4 := z3.alloc (.lst ((rep 200 0).map V.int)) k4
      walk_at "ev"
      intro s5 k5
      have z5 := z4.alloc (.lst [.int 0]) k5
      walk_at "ev"
      refine r_repI 200 (z5.get (.head _)) rfl (by decide) ?_
      intro s6 k6
      have z6 := z5.alloc (.lst ((rep 200 0).map V.int)) k6
      walk_at "ev"
      intro s7 k7
      have z7 := z6.alloc (.lst [.int 0]) k7
      walk_at "ev"
      refine r_repI 200 (z7.get (.head _)) rfl (by decide) ?_
      intro s8 k8
      have z8 := z7.alloc (.lst ((rep 200 0).map V.int)) k8
      walk_at "ev"
      refine r_planA (d := zero200) zero200_ok (z8.get (.tail _ (.tail _ (.tail _ (.tail _ (.tail _ (.tail _ (.head _)))))))) (z8.get (.tail _ (.tail _ (.tail _ (.tail _ (.head _)))))) (z8.get (.tail _ (.tail _ (.head _)))) (z8.get (.head _)) fun q HA fA nA => ?_
      have pq := nA.at
      clear nA fA z8 k8 z7 k7 z6 k6 z5 k5 z4 k4 z3 k3 z2 k2 z1 k1
      walk_at "ev"
      intro s9 k9
      have z9 := (Z.start0 HA).alloc (.lst [.int 0]) k9
      walk_at "ev"
      refine r_repI 200 (z9.get (.head _)) rfl (by decide) ?_
      intro s10 k10
      have z10 := z9.alloc (.lst ((rep 200 0).map V.int)) k10
      walk_at "ev"
      intro s11 k11
      have z11 := z10.alloc (.lst [.int 0]) k11
      walk_at "ev"
      refine r_repI 200 (z11.get (.head _)) rfl (by decide) ?_
      intro s12 k12
      have z12 := z11.alloc (.lst ((rep 200 0).map V.int)) k12
      walk_at "ev"
      intro s13 k13
      have z13 := z12.alloc (.lst [.int 0]) k13
      walk_at "ev"
      refine r_repI 200 (z13.get (.head _)) rfl (by decide) ?_
      intro s14 k14
      have z14 := z13.alloc (.lst ((rep 200 0).map V.int)) k14
      walk_at "ev"
      intro s15 k15
      have z15 := z14.alloc (.lst [.int 0]) k15
      walk_at "ev"
      refine r_repI 199 (z15.get (.head _)) rfl (by decide) ?_
      intro s16 k16
      have z16 := z15.alloc (.lst ((rep 199 0).map V.int)) k16
      walk_at "ev"
      intro s17 k17
      have z17 := z16.alloc (.lst [.int 1]) k17
      walk_at "ev"
      rw [show (rep 199 0).map V.int ++ [V.int 1] = one200.B.map V.int by simp [one200]]
      intro s18 k18
      have z18 := z17.alloc (.lst (one200.B.map V.int)) k18
      walk_at "ev"
      refine r_planA (d := one200) one200_ok (z18.get (.tail _ (.tail _ (.tail _ (.tail _ (.tail _ (.tail _ (.tail _ (.tail _ (.head _)))))))))) (z18.get (.tail _ (.tail _ (.tail _ (.tail _ (.tail _ (.tail _ (.head _)))))))) (z18.get (.tail _ (.tail _ (.tail _ (.tail _ (.head _)))))) (z18.get (.head _)) fun q2 HB fB nB => ?_
      have pqB := pq.mono ((z18.fr0 (by simp)).trans fB)
      refine r_eqX pqB nB.at ?_
      rw [decide_eq_false zero_ne_one]
      clear nB fB pq z18 k18 z17 k17 z16 k16 z15 k15 z14 k14 z13 k13 z12 k12 z11 k11 z10 k10 z9 k9
      walk_at "ev"
      refine r_lenD pqB (by decide) ?_
      walk_at "ev"
      rw [show decide (V.int (zero200.L.length : Nat) = V.int 200) = true from decide_eq_true rfl]
      walk_at "ev"
      intro s19 k19
      have z19 := (Z.start0 HB).alloc (.lst [.int (-5)]) k19
      walk_at "ev"
      intro s20 k20
      have z20 := z19.alloc (.lst [.int (-5)]) k20
      walk_at "ev"
      intro s21 k21
      have z21 := z20.alloc (.lst [.int (-(10 ^ Int.toNat 29))]) k21
      walk_at "ev"
      intro s22 k22
      have z22 := z21.alloc (.lst [.int (10 ^ Int.toNat 29)]) k22
      walk_at "ev"
      refine r_planA (d := lone) lone_ok (z22.get (.tail _ (.tail _ (.tail _ (.head _))))) (z22.get (.tail _ (.tail _ (.head _)))) (z22.get (.tail _ (.head _))) (z22.get (.head _)) fun q3 HC fC nC => ?_
      obtain ⟨dx, p1, p2, p3, p4, q0, _⟩ := nC.at.ex
      refine r_exp q0 ⟨q3, lone, rfl, nC.at, by decide, ?_⟩
      walk_at "ev"
      exact k _
end
set_option Elab.async false
set_option linter.all false
set_option maxRecDepth 100000
set_option maxHeartbeats 0
abbrev R : PySem.W.OpenRow := PySem.W.OpenLaw.row PySem.Challenge.rw_evenbits_k01_plans_made
abbrev hk : PySem.W.Hook := hookM 6 fa fn
def ob (s : PySem.W.SharedT) : He.AlD := obsMG 6 fa fn (HandSHeadRun.getT s)
theorem ob_eq (s : PySem.W.SharedT) : ob s = hk.obs s.abs := obsMG_eq (HandSHeadRun.getT_eq s)
theorem run (w : World) : HandSHeadRun.RunEq R (PySem.W.view R.prog [25]) hk ob 4000 ["_wall", "__name__", "MOST_TIMES", "is_whole", "is_between", "is_whole_list", "is_at_most", "EvenError", "InvalidPlan", "InvalidTime", "InvalidNumber", "Plan", "_law_jar", "_law_dip", "_law_around", "_law_small", "_law_great", "_law_heap", "_law_told", "_law_due", "_law_others", "_law_right"] w := by
  intro os
  kernel_rfl
set_option Elab.async false
set_option linter.all false
set_option maxRecDepth 100000
set_option maxHeartbeats 0
theorem law_factsG {P : Program} {w : World} {K : PySem.W.Frag} {h : Heap} {mg : Str → Option Value} {f : Addr} (X : K.In h) (G : h.Ns mainGlobals mg) (hfa : mg ("law" : Str) = some (.ref f)) (c : SaysM fa fn K) :
    ∃ fd : FuncData, (∀ (s : Shared) (v : Value), BindsTo s fd ⟨[v], []⟩ [("script", v)]) ∧ ∀ base : Heap, K.In base → base.Ns mainGlobals mg → FnG P w K mg base 8 f fd ["script"] (sp_law K) := by
  obtain ⟨f0, fd0, F0, g0, _, b0, fu0⟩ := (k_law (P := P) (w := w) (⟨c, X, G⟩ : Tx fa fn K mg h)).ex
  obtain rfl : f0 = f := by
    have e := g0.symm.trans hfa
    cases e
    rfl
  have b := FunD.bindsA (ps := ["script"]) fu0 fun _ _ _ _ _ _ us hl => match us, hl with | [_], _ => rfl
  refine ⟨fd0, fun s v => b s [v] rfl, fun bs hX hG => ?_⟩
  obtain ⟨f1, fd1, F1, g1, _, _, fu1⟩ := (k_law (P := P) (w := w) (⟨c, hX, hG⟩ : Tx fa fn K mg bs)).ex
  obtain rfl : f1 = f0 := by
    have e := g1.symm.trans hfa
    cases e
    rfl
  obtain ⟨_, _, _, _, _, _, _, _, _, _, _, lk0, _⟩ := fu0.ex
  obtain ⟨_, _, _, _, _, _, _, _, _, _, _, lk1, _⟩ := fu1.ex
  obtain rfl : fd1 = fd0 := by
    have e := lk1.symm.trans lk0
    cases e
    rfl
  exact F1
end Ev
open PySem PySem.W PySem.Calls PyProof.Rows
theorem PySem.Challenge.cw_evenbits_k01_plans_made_holds : PySem.Challenge.rw_evenbits_k01_plans_made.Holds := by
  w_on; o_law
  refine HandSHeadRun.head_any (r := OpenLaw.row PySem.Challenge.rw_evenbits_k01_plans_made) (q := view (OpenLaw.row PySem.Challenge.rw_evenbits_k01_plans_made).prog [25]) (H := Ev.hk) (ob := Ev.ob) (M := 4000)
    (loose := ["_wall", "__name__", "MOST_TIMES", "is_whole", "is_between", "is_whole_list", "is_at_most", "EvenError", "InvalidPlan", "InvalidTime", "InvalidNumber", "Plan", "_law_jar", "_law_dip", "_law_around", "_law_small", "_law_great", "_law_heap", "_law_told", "_law_due", "_law_others", "_law_right"]) (d := HandSHeadRun.topDef (OpenLaw.row PySem.Challenge.rw_evenbits_k01_plans_made).prog 25) (kwd := []) Ev.ob_eq
    (by kernel_rfl) (fun s => by kernel_rfl) Ev.run (by kernel_rfl) (by kernel_rfl) (by kernel_rfl) (by rfl) (by first | assumption | decide +kernel) (by decide +kernel) ⟨rfl, rfl, rfl, rfl, rfl, by decide +kernel⟩ ?hw ?hc
  case hw => w_witness2
  case hc =>
    refine Ev.walk_ofG (l := PySem.Challenge.rw_evenbits_k01_plans_made) (n := 63) (k := 8) (x := "script") rfl (by decide) (by kernel_rfl) ⟨rfl, by decide, by decide⟩ ?F
    intro w mg fa h Y G hmg0
    obtain ⟨K, KX, c⟩ := Y
    have hmg : mg ("law" : PySem.Str) = some (.ref fa) := by
      have e : (HandSHeadRun.topDef (OpenLaw.row PySem.Challenge.rw_evenbits_k01_plans_made).prog 25).name = ("law" : PySem.Str) := by kernel_rfl
      rw [← e]
      exact hmg0
    obtain ⟨fd, hb, hF⟩ := Ev.law_factsG (P := (PySem.Challenge.rw_evenbits_k01_plans_made).prog) (w := w) KX G hmg c
    exact ⟨K, fd, Ev.sp_law K, KX, hb, fun H a ns hl _ hS => ⟨a, ns, rfl, hS, hl, fun _ => rfl⟩, hF⟩
