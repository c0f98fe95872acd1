import PyProof.Rows.All
import Wide.All
import OpenK.AllK
import Wide.FinOn
import HandS.ForMost
import HandS.Flow
import HandS.Style
import HandS.Wide
import HandS.IsInst
import HandS.Property
import HandS.Defaults
import HandS.HeadHook2
import HandS.HeadNt
import HandS.MakeKw
import HandS.Walk
import PyProof.InstNe
import KE.GoesEnumKw
import HandS.Iter
import HandS.Flt
import HandS.TryOnly
import HandS.Ends
import PyProof.ReprRoads
import HandS.Zip
import KE.KDictZip
import HandS.SortKw
import KE.KEqDeep
import PyProof.ReprLen
import PySem.Challenge.RW_evenbits_k24_prices_of_entries
import HandS.Conv
import HandS.Dict
import HandS.RaiseMore
import Lean
import KE.KStateDown
import HandS.Head0
import HandS.Head1
import HandS.Head2
import HandS.HeadEnd
set_option Elab.async false
set_option linter.all false
set_option maxRecDepth 100000
set_option maxHeartbeats 4000000
namespace Ev
open PySem PySem.Spec PyProof.Rows L2
/-! ## what is known of the abstract heap -/
def Fr (J : List Addr) (H H' : Hp) : Prop := ∀ a o, a ∉ J → H a = some o → H' a = some o
theorem Fr.refl {J : List Addr} (H : Hp) : Fr J H H := fun _ _ _ h => h
theorem Fr.trans {J : List Addr} {H H1 H2 : Hp} (a : Fr J H H1) (b : Fr J H1 H2) : Fr J H H2 := fun x o hx h => b x o hx (a x o hx h)
theorem Fr.up {J J' : List Addr} {H H1 : Hp} (a : Fr J H H1) (s : ∀ x, x ∈ J → x ∈ J') : Fr J' H H1 := fun x o hx h => a x o (fun z => hx (s x z)) h
theorem Fr.up0 {J : List Addr} {H H1 : Hp} (a : Fr [] H H1) : Fr J H H1 := a.up fun _ z => nomatch z
theorem Fr.new {J : List Addr} {H H1 : Hp} {p : Addr} {o : HO} (a : Fr J H H1) (hp : H1 p = none) : Fr J H (upd H1 p o) := fun x u hx h => by
  have h1 := a x u hx h
  rw [upd_ne (ne_of_none h1 hp)]
  exact h1
theorem Fr.get {J : List Addr} {H H1 : Hp} (a : Fr J H H1) {x : Addr} {o : HO} (h : H x = some o) (hx : x ∉ J) : H1 x = some o := a x o hx h
theorem Fr.sql {J : List Addr} {K : PySem.W.Frag} {H H1 : Hp} (a : Fr J H H1) {x : Addr} {xs : List V} (h : SqL K H x xs) (hx : x ∉ J) : SqL K H1 x xs := by
  rcases h with (h | ⟨o, h⟩) | h
  · exact .inl (.inl (a x _ hx h))
  · exact .inl (.inr ⟨o, a x _ hx h⟩)
  · exact .inr h
theorem Fr.sqt {J : List Addr} {K : PySem.W.Frag} {H H1 : Hp} (a : Fr J H H1) {x : Addr} {xs : List V} (h : SqT K H x xs) (hx : x ∉ J) : SqT K H1 x xs := by
  rcases h with (h | ⟨o, h⟩) | h
  · exact .inl (.inl (a x _ hx h))
  · exact .inl (.inr ⟨o, a x _ hx h⟩)
  · exact .inr h
/-- the addresses of a list of entries -/
def HL (H : Hp) (N : List (Addr × HO)) : Prop := (N.map (·.1)).Nodup ∧ ∀ q ∈ N, H q.1 = some q.2
def New (H H' : Hp) (N : List (Addr × HO)) : Prop := HL H' N ∧ ∀ q ∈ N, H q.1 = none
abbrev En := Nat × Addr × HO
/-- entries: 0 stood at the entry and stays, 1 stood at the entry and may change, 2 is new -/
structure Z (H0 H : Hp) (E : List En) : Prop where
  nd : (E.map (·.2.1)).Nodup
  at_ : ∀ q ∈ E, H q.2.1 = some q.2.2
  fresh : ∀ q ∈ E, q.1 = 2 → H0 q.2.1 = none
  fr : ∀ a o, (∀ q ∈ E, q.1 = 1 → q.2.1 ≠ a) → H0 a = some o → H a = some o
section
variable {H0 H H' : Hp} {E : List En}
theorem Z.get (z : Z H0 H E) {t : Nat} {a : Addr} {o : HO} (h : (t, a, o) ∈ E) : H a = some o := z.at_ _ h
theorem Z.start0 (H : Hp) : Z H H [] := ⟨List.nodup_nil, (fun _ h => nomatch h), (fun _ h => nomatch h), fun _ _ _ h => h⟩
theorem Z.old (z : Z H0 H E) {a : Addr} {o : HO} (t : Nat) (ht : t ≠ 2) (h : H a = some o) (hn : ∀ q ∈ E, q.2.1 ≠ a) : Z H0 H ((t, a, o) :: E) :=
  ⟨by
    rw [List.map_cons, List.nodup_cons]
    refine ⟨fun m => ?_, z.nd⟩
    obtain ⟨q, hq, e⟩ := List.mem_map.mp m
    exact hn q hq e,
  fun q hq => by
    rcases List.mem_cons.mp hq with rfl | hq
    · exact h
    · exact z.at_ q hq,
  fun q hq e => by
    rcases List.mem_cons.mp hq with rfl | hq
    · exact absurd e ht
    · exact z.fresh q hq e,
  fun b u hb h' => z.fr b u (fun q hq => hb q (List.mem_cons_of_mem _ hq)) h'⟩
theorem Z.new (z : Z H0 H E) {p : Addr} {o : HO} (hp : H p = none) (h0 : H0 p = none) : Z H0 (upd H p o) ((2, p, o) :: E) := by
  have hn : ∀ q ∈ E, q.2.1 ≠ p := fun q hq => ne_of_none (z.at_ q hq) hp
  refine ⟨?_, fun q hq => ?_, fun q hq e => ?_, fun b u hb h' => ?_⟩
  · rw [List.map_cons, List.nodup_cons]
    refine ⟨fun m => ?_, z.nd⟩
    obtain ⟨q, hq, e⟩ := List.mem_map.mp m
    exact hn q hq e
  · rcases List.mem_cons.mp hq with rfl | hq
    · exact upd_same
    · rw [upd_ne (hn q hq)]
      exact z.at_ q hq
  · rcases List.mem_cons.mp hq with rfl | hq
    · exact h0
    · exact z.fresh q hq e
  · have h1 := z.fr b u (fun q hq => hb q (List.mem_cons_of_mem _ hq)) h'
    rw [upd_ne (ne_of_none h1 hp)]
    exact h1
/-- new at the heap is new at the entry's, as long as all that may change is known -/
theorem Z.none (z : Z H0 H E) {p : Addr} (hp : H p = none) : H0 p = none := by
  cases e : H0 p with
  | none => rfl
  | some o =>
    have h1 := z.fr p o (fun q hq _ => ne_of_none (z.at_ q hq) hp) e
    rw [hp] at h1
    cases h1
theorem Z.alloc (z : Z H0 H E) {p : Addr} (o : HO) (hp : H p = Option.none) : Z H0 (upd H p o) ((2, p, o) :: E) := z.new hp (z.none hp)
theorem mem_set_of {α : Type} {l : List α} {i : Nat} {x y : α} (h : y ∈ l.set i x) : y = x ∨ ∃ j, j ≠ i ∧ l[j]? = some y := by
  obtain ⟨j, hj, e⟩ := List.mem_iff_getElem.mp h
  rw [List.getElem_set] at e
  by_cases hij : i = j
  · rw [if_pos hij] at e
    exact .inl e.symm
  · rw [if_neg hij] at e
    refine .inr ⟨j, fun z => hij z.symm, ?_⟩
    rw [List.getElem?_eq_getElem (by rw [List.length_set] at hj; exact hj), e]
theorem Z.other (z : Z H0 H E) {i j : Nat} {q r : En} (hi : E[i]? = some q) (hj : E[j]? = some r) (h : j ≠ i) : r.2.1 ≠ q.2.1 := fun e => by
  have h1 : (E.map (·.2.1))[i]? = some q.2.1 := by rw [List.getElem?_map, hi] <;> rfl
  have h2 : (E.map (·.2.1))[j]? = some r.2.1 := by rw [List.getElem?_map, hj] <;> rfl
  rw [e] at h2
  obtain ⟨g1, e1⟩ := List.getElem?_eq_some_iff.mp h1
  obtain ⟨g2, e2⟩ := List.getElem?_eq_some_iff.mp h2
  exact h ((List.getElem_inj z.nd).mp (e2.trans e1.symm))
theorem map_set_same {i : Nat} {t : Nat} {a : Addr} {o o' : HO} (h : E[i]? = some (t, a, o)) : (E.set i (t, a, o')).map (·.2.1) = E.map (·.2.1) := by
  rw [List.map_set]
  have h1 : (E.map (·.2.1))[i]? = some a := by rw [List.getElem?_map, h] <;> rfl
  obtain ⟨g1, e1⟩ := List.getElem?_eq_some_iff.mp h1
  refine List.ext_getElem (by simp) fun k k1 k2 => ?_
  rw [List.getElem_set]
  split
  · rename_i e
    subst e
    exact e1.symm
  · rfl
/-- the heap changed at the i-th entry alone -/
theorem Z.move (z : Z H0 H E) (i : Nat) {t : Nat} {a : Addr} {o o' : HO} (hi : E[i]? = some (t, a, o)) (ht : t = 1 ∨ t = 2) (ha : H' a = some o') (f : Fr [a] H H') : Z H0 H' (E.set i (t, a, o')) := by
  have hin := List.mem_of_getElem? hi
  refine ⟨?_, fun q hq => ?_, fun q hq e => ?_, fun b u hb h' => ?_⟩
  · rw [map_set_same hi]
    exact z.nd
  · rcases mem_set_of hq with rfl | ⟨j, hj, e⟩
    · exact ha
    · exact f _ _ (by
        intro m
        rcases List.mem_cons.mp m with m | m
        · exact z.other hi e hj m
        · cases m) (z.at_ q (List.mem_of_getElem? e))
  · rcases mem_set_of hq with rfl | ⟨j, hj, e2⟩
    · exact z.fresh (t, a, o) hin e
    · exact z.fresh q (List.mem_of_getElem? e2) e
  · have hba : b ≠ a := fun e => by
      subst e
      rcases ht with rfl | rfl
      · exact hb (1, b, o') (List.mem_iff_getElem?.mpr ⟨i, by rw [List.getElem?_set_self (List.getElem?_eq_some_iff.mp hi).1]⟩) rfl rfl
      · have := z.fresh _ hin rfl
        rw [h'] at this
        cases this
    have h1 := z.fr b u (fun q hq e1 e2 => by
      obtain ⟨j, hj⟩ := List.mem_iff_getElem?.mp hq
      by_cases hji : j = i
      · subst hji
        rw [hi] at hj
        cases hj
        exact hba e2.symm
      · exact hb q (List.mem_iff_getElem?.mpr ⟨j, by rw [List.getElem?_set_ne (Ne.symm hji)]; exact hj⟩) e1 e2) h'
    exact f b u (fun m => by
      rcases List.mem_cons.mp m with m | m
      · exact hba m
      · cases m) h1
theorem Z.set (z : Z H0 H E) (i : Nat) {t : Nat} {a : Addr} {o : HO} (o' : HO) (hi : E[i]? = some (t, a, o)) (ht : t = 1 ∨ t = 2) : Z H0 (upd H a o') (E.set i (t, a, o')) :=
  z.move i hi ht upd_same fun b u hb h => by
    rw [upd_ne (fun e => hb (by rw [e]; exact List.mem_cons_self))]
    exact h
theorem Z.same (z : Z H0 H E) (f : Fr [] H H') : Z H0 H' E := ⟨z.nd, fun q hq => f _ _ (fun m => nomatch m) (z.at_ q hq), z.fresh, fun a o ha h => f _ _ (fun m => nomatch m) (z.fr a o ha h)⟩
/-- what came new -/
theorem Z.adds (z : Z H0 H' E) {N : List (Addr × HO)} (n : HL H' N) (h0 : ∀ q ∈ N, H0 q.1 = Option.none) (hd : ∀ q ∈ N, ∀ e ∈ E, e.2.1 ≠ q.1) : Z H0 H' (N.map (fun q => ((2, q.1, q.2) : En)) ++ E) := by
  refine ⟨?_, fun q hq => ?_, fun q hq e => ?_, fun b u hb h' => ?_⟩
  · rw [List.map_append, List.nodup_append]
    refine ⟨?_, z.nd, fun x hx y hy e => ?_⟩
    · have e : (N.map (fun q => ((2, q.1, q.2) : En))).map (·.2.1) = N.map (·.1) := by rw [List.map_map]; rfl
      rw [e]
      exact n.1
    · obtain ⟨q, hq, rfl⟩ := List.mem_map.mp hx
      obtain ⟨q', hq', rfl⟩ := List.mem_map.mp hq
      obtain ⟨r, hr, rfl⟩ := List.mem_map.mp hy
      exact hd q' hq' r hr e.symm
  · rcases List.mem_append.mp hq with hq | hq
    · obtain ⟨q', hq', rfl⟩ := List.mem_map.mp hq
      exact n.2 q' hq'
    · exact z.at_ q hq
  · rcases List.mem_append.mp hq with hq | hq
    · obtain ⟨q', hq', rfl⟩ := List.mem_map.mp hq
      exact h0 q' hq'
    · exact z.fresh q hq e
  · exact z.fr b u (fun q hq => hb q (List.mem_append_right _ hq)) h'
/-- behind a call that changes the i-th entry and makes N -/
theorem Z.call (z : Z H0 H E) (i : Nat) {t : Nat} {a : Addr} {o o' : HO} {N : List (Addr × HO)} (hi : E[i]? = some (t, a, o)) (ht : t = 1 ∨ t = 2) (ha : H' a = some o') (f : Fr [a] H H') (n : New H H' N) : Z H0 H' (N.map (fun q => ((2, q.1, q.2) : En)) ++ E.set i (t, a, o')) := by
  refine (z.move i hi ht ha f).adds n.1 (fun q hq => z.none (n.2 q hq)) fun q hq e he => ?_
  rcases mem_set_of he with rfl | ⟨j, hj, e2⟩
  · exact ne_of_none (z.at_ (t, a, o) (List.mem_of_getElem? hi)) (n.2 q hq)
  · exact ne_of_none (z.at_ _ (List.mem_of_getElem? e2)) (n.2 q hq)
/-- behind a call that makes N alone -/
theorem Z.call0 (z : Z H0 H E) {N : List (Addr × HO)} (f : Fr [] H H') (n : New H H' N) : Z H0 H' (N.map (fun q => ((2, q.1, q.2) : En)) ++ E) :=
  (z.same f).adds n.1 (fun q hq => z.none (n.2 q hq)) fun q hq e he => ne_of_none (z.at_ _ he) (n.2 q hq)
/-- entries forgotten, but those that may change -/
theorem Z.sub (z : Z H0 H E) {E' : List En} (s : E'.Sublist E) (k : ∀ q ∈ E, q.1 = 1 → q ∈ E') : Z H0 H E' :=
  ⟨(s.map _).nodup z.nd, fun q hq => z.at_ q (s.subset hq), fun q hq => z.fresh q (s.subset hq), fun a o ha h => z.fr a o (fun q hq e => ha q (k q hq e) e) h⟩
theorem Z.perm (z : Z H0 H E) {E' : List En} (s : E'.Perm E) : Z H0 H E' :=
  ⟨(s.map _).nodup_iff.mpr z.nd, fun q hq => z.at_ q (s.subset hq), fun q hq => z.fresh q (s.subset hq), fun a o ha h => z.fr a o (fun q hq e => ha q (s.symm.subset hq) e) h⟩
theorem Z.fr0 (z : Z H0 H E) (h : ∀ q ∈ E, q.1 ≠ 1) : Fr [] H0 H := fun a o _ e => z.fr a o (fun q hq e1 => absurd e1 (h q hq)) e
theorem Z.fr1 (z : Z H0 H E) {j : Addr} (h : ∀ q ∈ E, q.1 = 1 → q.2.1 = j) : Fr [j] H0 H := fun a o ha e => z.fr a o (fun q hq e1 e2 => ha (by rw [← e2, h q hq e1]; exact List.mem_cons_self)) e
theorem Z.keep (z : Z H0 H E) {a : Addr} {o : HO} (h : H0 a = some o) (n : ∀ q ∈ E, q.1 = 1 → q.2.1 ≠ a) : H a = some o := z.fr a o n h
theorem Z.comp (z : Z H0 H E) {D : Addr} {o : HO} (f : Fr [] H H') (h0 : H D = Option.none) (h1 : H' D = some o) : Z H0 H' ((2, D, o) :: E) := by
  refine z.call0 (N := [(D, o)]) f ⟨⟨List.nodup_cons.mpr ⟨(fun m => nomatch m), List.nodup_nil⟩, fun q hq => ?_⟩, fun q hq => ?_⟩
  · rcases List.mem_cons.mp hq with rfl | hq
    · exact h1
    · cases hq
  · rcases List.mem_cons.mp hq with rfl | hq
    · exact h0
    · cases hq
theorem Z.ne (z : Z H0 H E) (i j : Nat) {q r : En} (hi : E[i]? = some q) (hj : E[j]? = some r) (h : j ≠ i) : r.2.1 ≠ q.2.1 := z.other hi hj h
/-- of the new ones those by their places -/
theorem Z.made (z : Z H0 H E) {N : List (Addr × HO)} (s : (N.map (fun q => ((2, q.1, q.2) : En))).Sublist E) : New H0 H N := by
  refine ⟨⟨?_, fun q hq => z.at_ (2, q.1, q.2) (s.subset (List.mem_map.mpr ⟨q, hq, rfl⟩))⟩, fun q hq => z.fresh (2, q.1, q.2) (s.subset (List.mem_map.mpr ⟨q, hq, rfl⟩)) rfl⟩
  have := (s.map (·.2.1)).nodup z.nd
  rw [List.map_map] at this
  exact this
end
/-! ## readings, one step each -/
section
variable {K : PySem.W.Frag} {σ : L2.St} {H : Hp} {Q : VK} {QB : Bool → Hp → Prop} {D : Ends} {t u : TS} {ta tb tc te : TE} {tt tu : TT} {tas : TA} {v x y : V} {n i j : Int} {C : Int → Int → Prop} {g : Int → Int → V} {G : TG} {p a : Addr} {xs : List V} {r : R2}
theorem r_seq (h : t { D with nx := u D } σ H) : tSeq t u D σ H := h
theorem r_asg (h : te σ H fun x H1 => G x σ H1 D.nx) : tAsg te G D σ H := h
theorem r_ret (h : te σ H D.rt) : tRet te D σ H := h
theorem r_drop (h : te σ H fun _ H1 => D.nx σ H1) : tDrop te D σ H := h
theorem r_next (h : D.nx σ H) : tNext D σ H := h
theorem r_ifs (h : tt σ H fun b H1 => if b = true then t D σ H1 else u D σ H1) : tIfS tt t u D σ H := h
theorem r_var {k : Nat} (h : σ[k]? = some (some v)) (q : Q v H) : tVar k σ H Q := ⟨v, h, q⟩
theorem r_c (q : Q v H) : tC v σ H Q := q
theorem r_op (h : ta σ H fun x H1 => tb σ H1 fun y H2 => r x y H2 Q) : tOp r ta tb σ H Q := h
theorem r_un {r : V → Hp → VK → Prop} (h : ta σ H fun x H1 => r x H1 Q) : tUn r ta σ H Q := h
theorem r_I0 (q : Q (g i j) H) : rI0 g (.int i) (.int j) H Q := ⟨i, j, rfl, rfl, q⟩
theorem r_I (c : C i j) (q : Q (g i j) H) : rI C g (.int i) (.int j) H Q := ⟨i, j, rfl, rfl, c, q⟩
theorem r_U {g : Int → V} (q : Q (g i) H) : rU g (.int i) H Q := ⟨i, rfl, q⟩
theorem r_test (h : te σ H fun x H' => ∃ k, x = .bl k ∧ QB k H') : tTest te σ H QB := h
theorem r_B (h : te σ H fun x H' => ∃ k, x = .bl k ∧ QB k H') : tB te σ H QB := h
theorem r_and (h : tt σ H fun c H1 => if c = true then tu σ H1 QB else QB false H1) : tAnd tt tu σ H QB := h
theorem r_or (h : tt σ H fun c H1 => if c = true then QB true H1 else tu σ H1 QB) : tOr tt tu σ H QB := h
theorem r_not (h : tt σ H fun c H1 => QB (!c) H1) : tNot tt σ H QB := h
theorem r_andV (h : ta σ H fun x H1 => ∃ c, x = .bl c ∧ if c = true then tb σ H1 Q else Q (.bl false) H1) : tAndV ta tb σ H Q := h
theorem r_orV (h : ta σ H fun x H1 => ∃ c, x = .bl c ∧ if c = true then Q (.bl true) H1 else tb σ H1 Q) : tOrV ta tb σ H Q := h
theorem r_notV (h : ta σ H fun x H1 => ∃ c, x = .bl c ∧ Q (.bl (!c)) H1) : tNotV ta σ H Q := h
theorem r_exif {b : Bool} {P : Bool → Prop} (h : P b) : ∃ c, V.bl b = V.bl c ∧ P c := ⟨b, rfl, h⟩
theorem r_if (h : tt σ H fun c H1 => if c = true then ta σ H1 Q else tb σ H1 Q) : tIf tt ta tb σ H Q := h
theorem r_name {k : Nat} {R : L2.St → Hp → Prop} (h : R (σ.set k (some v)) H) : gName k v σ H R := h
theorem r_gtup {k : Nat} {T : TGs} {R : L2.St → Hp → Prop} (h : SqT K H a xs) (e : xs.length = k) (q : T xs σ H R) : gTup K k T (.ref a) σ H R := ⟨a, xs, rfl, h, e, q⟩
theorem r_gcons {T : TGs} {R : L2.St → Hp → Prop} {vs : List V} (q : G v σ H fun σ' H' => T vs σ' H' R) : gCons G T (v :: vs) σ H R := ⟨v, vs, rfl, q⟩
theorem r_gnil {R : L2.St → Hp → Prop} (q : R σ H) : gNil [] σ H R := ⟨rfl, q⟩
theorem r_gsub {T : TSet} {R : L2.St → Hp → Prop} (h : ta σ H fun o H1 => tb σ H1 fun i H2 => T o i v H2 fun H3 => R σ H3) : gSub ta tb T v σ H R := h
theorem r_setL {R : Hp → Prop} {k : Int} (h : H p = some (.lst xs)) (q : ∃ m, ixN xs.length k = some m ∧ R (upd H p (.lst (xs.set m v)))) : rSetL (.ref p) (.int k) v H R := by
  obtain ⟨m, e, q⟩ := q
  exact ⟨p, xs, k, m, rfl, rfl, h, e, q⟩
theorem r_tup (h : tas σ H fun xs H1 => xs.length ≤ sizeLine ∧ ∀ p, H1 p = none → Q (.ref p) (upd H1 p (.tup xs))) : tTup tas σ H Q := h
theorem r_lst (h : tas σ H fun xs H1 => xs.length ≤ sizeLine ∧ ∀ p, H1 p = none → Q (.ref p) (upd H1 p (.lst xs))) : tLst tas σ H Q := h
theorem r_mk {P : Prop} (e : xs.length ≤ sizeLine) (h : P) : xs.length ≤ sizeLine ∧ P := ⟨e, h⟩
theorem iteNT {A B : Prop} (h : B) : if (!true) = true then A else B := iteF h
theorem iteNF {A B : Prop} (h : A) : if (!false) = true then A else B := iteT h
theorem r_cons {R : List V → Hp → Prop} (h : ta σ H fun x H1 => tas σ H1 fun xs H2 => R (x :: xs) H2) : tCons ta tas σ H R := h
theorem r_nil {R : List V → Hp → Prop} (h : R [] H) : tNil σ H R := h
theorem r_cb {rr : List V → Hp → VK → Prop} (h : tas σ H fun vs H1 => rr vs H1 Q) : tCB rr tas σ H Q := h
theorem r_call {sp : Sp} {dvs : List V} {E : XK} (h : tas σ H fun vs H1 => sp (vs ++ dvs) H1 Q E) : tCall sp dvs E tas σ H Q := h
theorem r_ixL (h : SqL K H p xs) (q : ∃ v, atI xs i = some v ∧ Q v H) : rIxL K (.ref p) (.int i) H Q := by
  obtain ⟨v, e, q⟩ := q
  exact ⟨p, xs, i, v, rfl, rfl, h, e, q⟩
theorem r_ixT (h : SqT K H p xs) (q : ∃ v, atI xs i = some v ∧ Q v H) : rIxT K (.ref p) (.int i) H Q := by
  obtain ⟨v, e, q⟩ := q
  exact ⟨p, xs, i, v, rfl, rfl, h, e, q⟩
theorem r_at {P : V → Prop} (e : atI xs i = some v) (q : P v) : ∃ v, atI xs i = some v ∧ P v := ⟨v, e, q⟩
theorem r_ixn {k : Int} {m n : Nat} {P : Nat → Prop} (e : ixN n k = some m) (q : P m) : ∃ m, ixN n k = some m ∧ P m := ⟨m, e, q⟩
theorem r_ixSL (q : rIxL K x y H Q) : rIx K x y H Q := .inl q
theorem r_ixST (q : rIxT K x y H Q) : rIx K x y H Q := .inr (.inl q)
theorem r_exfld {Cc dx : Addr} {fs : List (Str × V)} {f : Str} {P : V → Prop} (h : H a = some (.ins Cc dx fs)) (c : Cls K Cc) (n : NoAttr K Cc f) (l : fs.lookup f = some v) (q : P v) :
    ∃ b C dx fs v, V.ref a = .ref b ∧ H b = some (.ins C dx fs) ∧ Cls K C ∧ NoAttr K C f ∧ fs.lookup f = some v ∧ P v := ⟨a, Cc, dx, fs, v, rfl, h, c, n, l, q⟩
theorem r_exsfld {Cc dx : Addr} {fs : List (Str × V)} {f : Str} {P : Addr → Addr → Addr → List (Str × V) → Prop} (h : H a = some (.ins Cc dx fs)) (c : Cls K Cc) (n : NoAttr K Cc f) (l : fs.length < 1000) (q : P a Cc dx fs) :
    ∃ b C dx fs, V.ref a = .ref b ∧ H b = some (.ins C dx fs) ∧ Cls K C ∧ NoAttr K C f ∧ fs.length < 1000 ∧ P b C dx fs := ⟨a, Cc, dx, fs, rfl, h, c, n, l, q⟩
theorem r_sfld {f : Str} (h : te σ H fun y H1 => ta σ H1 fun x H2 => ∃ a C dx fs, x = .ref a ∧ H2 a = some (.ins C dx fs) ∧ Cls K C ∧ NoAttr K C f ∧ fs.length < 1000 ∧ D.nx σ (upd H2 a (.ins C dx (putF f y fs)))) : sFld K ta te f D σ H := h
theorem r_exm {Cc dx : Addr} {fs : List (Str × V)} {m : Str} {P : Prop} (h : H a = some (.ins Cc dx fs)) (l : fs.lookup m = none) (q : P) : ∃ b dx fs, V.ref a = .ref b ∧ H b = some (.ins Cc dx fs) ∧ fs.lookup m = none ∧ P := ⟨a, dx, fs, rfl, h, l, q⟩
theorem r_exp {Cc dx : Addr} {fs : List (Str × V)} {P : Addr → Prop} (h : H a = some (.ins Cc dx fs)) (q : P a) : ∃ b dx fs, V.ref a = .ref b ∧ H b = some (.ins Cc dx fs) ∧ P b := ⟨a, dx, fs, rfl, h, q⟩
theorem r_fld {f : Str} (h : ta σ H fun x H1 => ∃ a C dx fs v, x = .ref a ∧ H1 a = some (.ins C dx fs) ∧ Cls K C ∧ NoAttr K C f ∧ fs.lookup f = some v ∧ Q v H1) : tFld K ta f σ H Q := h
theorem r_bm {T : String} {rr : V → List V → Hp → VK → Prop} (h : ta σ H fun x H1 => tyV K T x H1 ∧ tas σ H1 fun xs H2 => rr x xs H2 Q) : tBM K T rr ta tas σ H Q := h
theorem r_app (h : H p = some (.lst xs)) (e : xs.length < sizeLine) (q : Q .non (upd H p (.lst (xs ++ [y])))) : rAppend (.ref p) [y] H Q := ⟨p, xs, y, rfl, rfl, h, e, q⟩
theorem r_tyL {P : Prop} (h : H p = some (.lst xs)) (q : P) : tyV K "list" (.ref p) H ∧ P := ⟨.inl ⟨rfl, _, SqL.of h⟩, q⟩
theorem r_sl {rr : V → Option Int → Option Int → Hp → VK → Prop} {tl th : TO} (h : te σ H fun x H1 => tl σ H1 fun l H2 => th σ H2 fun u H3 => rr x l u H3 Q) : tSl rr te tl th σ H Q := h
theorem r_part {R : Option Int → Hp → Prop} (h : te σ H fun x H1 => ∃ i, x = .int i ∧ R (some i) H1) : tPart te σ H R := h
theorem r_exint {R : Int → Prop} (h : R i) : ∃ k, V.int i = V.int k ∧ R k := ⟨i, rfl, h⟩
theorem r_nopart {R : Option Int → Hp → Prop} (h : R none H) : tNoPart σ H R := h
theorem r_slL {lo hi : Option Int} (h : SqL K H a xs) (q : ∀ p, H p = none → Q (.ref p) (upd H p (.lst (cutV xs lo hi)))) : rSlL K (.ref a) lo hi H Q := ⟨a, xs, rfl, h, q⟩
theorem r_revL (h : te σ H fun x H1 => ∃ a xs, x = .ref a ∧ SqL K H1 a xs ∧ ∀ p, H1 p = none → Q (.ref p) (upd H1 p (.lst xs.reverse))) : tRevL K te σ H Q := h
theorem r_exrev {P : List V → Prop} (h : SqL K H a xs) (q : P xs) : ∃ b ys, V.ref a = .ref b ∧ SqL K H b ys ∧ P ys := ⟨a, xs, rfl, h, q⟩
theorem r_cat {l b : Addr} {zs : List V} (h1 : H l = some (.lst xs)) (h2 : H b = some (.lst zs)) (e : xs.length + zs.length ≤ sizeLine) (q : ∀ p, H p = none → Q (.ref p) (upd H p (.lst (xs ++ zs)))) : rCat (.ref l) (.ref b) H Q := ⟨l, b, xs, zs, rfl, rfl, h1, h2, e, q⟩
theorem r_eq (h : scal x y = true) (q : Q (.bl (decide (x = y))) H) : rEq x y H Q := ⟨h, q⟩
theorem r_ne (h : scal x y = true) (q : Q (.bl (!decide (x = y))) H) : rNe x y H Q := ⟨h, q⟩
theorem r_chain {r' : R2} (h : ta σ H fun x H1 => tb σ H1 fun y H2 => r x y H2 fun z H3 => ∃ k, z = .bl k ∧ (if k = true then tc σ H3 fun w' H4 => r' y w' H4 Q else Q (.bl false) H3)) : tChain r r' ta tb tc σ H Q := h
theorem r_ite {c A B : Prop} [Decidable c] (h1 : c → A) (h2 : ¬ c → B) : if decide c = true then A else B := ite2 (fun z => h1 (of_decide_eq_true z)) fun z => h2 fun y => z (decide_eq_true y)
theorem r_iteN {c A B : Prop} [Decidable c] (h1 : ¬ c → A) (h2 : c → B) : if (!decide c) = true then A else B := ite2 (fun z => h1 fun y => by rw [decide_eq_true y] at z; cases z) fun z => h2 (by
  by_cases y : c
  · exact y
  · exact absurd (by rw [decide_eq_false y]; rfl) z)
theorem r_par {k l : Nat} (h : tas σ H fun vs H1 => ∃ v w, vs = [v, w] ∧ D.nx ((σ.set k (some v)).set l (some w)) H1) : tPar k l tas D σ H := h
theorem r_expar {R : V → V → Prop} (h : R x y) : ∃ v w, [x, y] = [v, w] ∧ R v w := ⟨x, y, rfl, h⟩
theorem r_exref {R : Addr → Prop} (h : R a) : ∃ b, V.ref a = V.ref b ∧ R b := ⟨a, rfl, h⟩
/-! loops -/
def ForJ (G : TG) (tb : TS) (D : Ends) (σ : L2.St) (J : It) (H1 : Hp) : Prop := ∃ W : Nat → Nat → L2.St → Hp → Prop, (∃ m, W 0 m σ H1) ∧ ∀ i m σ H, W i m σ H →
  (J.stop i H ∧ D.nx σ H) ∨ (J.go i H ∧ ∃ N : L2.St → Hp → Prop, (∀ σ' H', N σ' H' → ∃ m', m' < m ∧ W (i + 1) m' σ' H') ∧ ∀ x H', J.yld i H x H' → G x σ H' fun σ2 H2 => tb { D with nx := N, ct := N, bk := D.nx } σ2 H2)
theorem r_for {wi : TI} {tb : TS} (h : wi σ H (ForJ G tb D σ)) : tFor wi G tb D σ H := h
def LcJ (G : TG) (tt : TT) (te : TE) (vs : List Nat) (σ : L2.St) (Q : VK) (J : It) (H1 : Hp) : Prop := ∀ D, H1 D = none → ∃ W : Nat → Nat → Hp → Prop, (∃ m, W 0 m (upd H1 D (.lst []))) ∧ ∀ i m H, W i m H →
  (J.stop i H ∧ Q (.ref D) H) ∨ (J.go i H ∧ ∃ Nx : Hp → Prop, (∀ H', Nx H' → ∃ m', m' < m ∧ W (i + 1) m' H') ∧ ∀ x H', J.yld i H x H' → G x (wipe σ vs) H' fun σ2 H2 => wipe σ2 vs = wipe σ vs ∧ tt σ2 H2 fun b H3 =>
    if b = true then te σ2 H3 fun y H4 => ∃ acc, H4 D = some (.lst acc) ∧ acc.length < sizeLine ∧ Nx (upd H4 D (.lst (acc ++ [y]))) else Nx H3)
theorem r_lc {wi : TI} {vs : List Nat} (h : wi σ H (LcJ G tt te vs σ Q)) : tLc wi G tt te vs σ H Q := h
theorem r_ilist {R : It → Hp → Prop} (h : te σ H fun x H1 => ∃ a, x = .ref a ∧ (∃ xs, SqL K H1 a xs) ∧ R (Itl K a) H1) : iList K te σ H R := h
theorem r_exil {P : Addr → Prop} (hs : SqL K H a xs) (h : P a) : ∃ b, V.ref a = .ref b ∧ (∃ xs, SqL K H b xs) ∧ P b := ⟨a, rfl, ⟨xs, hs⟩, h⟩
theorem r_itup {R : It → Hp → Prop} (h : te σ H fun x H1 => ∃ a, x = .ref a ∧ (∃ xs, SqT K H1 a xs) ∧ R (Itt K a) H1) : iTup K te σ H R := h
theorem r_exit {P : Addr → Prop} (hs : SqT K H a xs) (h : P a) : ∃ b, V.ref a = .ref b ∧ (∃ xs, SqT K H b xs) ∧ P b := ⟨a, rfl, ⟨xs, hs⟩, h⟩
theorem r_irng1 {R : It → Hp → Prop} (h : tas σ H fun vs H1 => ∃ j : Int, vs = [.int j] ∧ -(2 ^ 62) ≤ j ∧ j < 2 ^ 62 ∧ R (Itr 0 j.toNat) H1) : iRng1 tas σ H R := h
theorem r_exr1 {P : Int → Prop} (h1 : -(2 ^ 62) ≤ j ∧ j < 2 ^ 62) (h : P j) : ∃ k : Int, [V.int j] = [.int k] ∧ -(2 ^ 62) ≤ k ∧ k < 2 ^ 62 ∧ P k := ⟨j, rfl, h1.1, h1.2, h⟩
theorem r_irng2 {R : It → Hp → Prop} (h : tas σ H fun vs H1 => ∃ i j : Int, vs = [.int i, .int j] ∧ (-(2 ^ 62) ≤ i ∧ i < 2 ^ 62 ∧ -(2 ^ 62) ≤ j ∧ j < 2 ^ 62) ∧ R (Itr i (j - i).toNat) H1) : iRng2 tas σ H R := h
theorem r_exr2 {P : Int → Int → Prop} (h1 : -(2 ^ 62) ≤ i ∧ i < 2 ^ 62 ∧ -(2 ^ 62) ≤ j ∧ j < 2 ^ 62) (h : P i j) : ∃ k l : Int, [V.int i, V.int j] = [.int k, .int l] ∧ (-(2 ^ 62) ≤ k ∧ k < 2 ^ 62 ∧ -(2 ^ 62) ≤ l ∧ l < 2 ^ 62) ∧ P k l := ⟨i, j, rfl, h1, h⟩
theorem r_irng3 {R : It → Hp → Prop} (h : tas σ H fun vs H1 => ∃ (i j c : Int) (n : Nat), vs = [.int i, .int j, .int c] ∧ RgC i j c n ∧ R (Itc i c n) H1) : iRng3 tas σ H R := h
theorem r_exr3 {P : Int → Int → Nat → Prop} (h1 : -(2 ^ 62) ≤ i ∧ i < 2 ^ 62 ∧ -(2 ^ 62) ≤ j ∧ j < 2 ^ 62) (h : P i (-1) (i - j).toNat) : ∃ (k l c : Int) (n : Nat), [V.int i, V.int j, V.int (-1)] = [.int k, .int l, .int c] ∧ RgC k l c n ∧ P k c n := ⟨i, j, -1, _, rfl, RgC.neg h1.1 h1.2.1 h1.2.2.1 h1.2.2.2, h⟩
theorem r_izip {R : It → Hp → Prop} (h : tas σ H fun vs H1 => ∃ a b xs ys, vs = [.ref a, .ref b] ∧ SqL K H1 a xs ∧ SqL K H1 b ys ∧ R (Itz K a b) H1) : iZip K tas σ H R := h
theorem r_exz {P : Addr → Addr → Prop} {b : Addr} {ys : List V} (h1 : SqL K H a xs) (h2 : SqL K H b ys) (h : P a b) : ∃ c d xs ys, [V.ref a, V.ref b] = [.ref c, .ref d] ∧ SqL K H c xs ∧ SqL K H d ys ∧ P c d := ⟨a, b, xs, ys, rfl, h1, h2, h⟩
theorem r_ienum {R : It → Hp → Prop} (h : tas σ H fun vs H1 => ∃ a xs, vs = [.ref a] ∧ SqL K H1 a xs ∧ R (Ite K a) H1) : iEnum K tas σ H R := h
theorem r_exen {P : Addr → Prop} (h1 : SqL K H a xs) (h : P a) : ∃ c xs, [V.ref a] = [.ref c] ∧ SqL K H c xs ∧ P c := ⟨a, xs, rfl, h1, h⟩
theorem r_yes (h : QB true H) : tYes σ H QB := h
theorem r_yes1 {A B : Prop} (h : A) : if true = true then A else B := iteT h
/-! built-ins by values -/
theorem r_len {P : List V → Prop} (h : SqL K H p xs) (q : P xs) : ∃ r ys, [V.ref p] = [.ref r] ∧ (SqL K H r ys ∨ SqT K H r ys) ∧ P ys := ⟨p, xs, rfl, .inl h, q⟩
theorem r_lenT {P : List V → Prop} (h : SqT K H p xs) (q : P xs) : ∃ r ys, [V.ref p] = [.ref r] ∧ (SqL K H r ys ∨ SqT K H r ys) ∧ P ys := ⟨p, xs, rfl, .inr h, q⟩
theorem r_int1 {P : Int → Prop} {P' : Prop} (q : P i) : (∃ k, [V.int i] = [.int k] ∧ P k) ∨ P' := .inl ⟨i, rfl, q⟩
theorem r_int2 {P : Int → Prop} (q : P i) : ∃ k, [V.int i] = [.int k] ∧ P k := ⟨i, rfl, q⟩
theorem r_int3 {P : Int → Int → Prop} (q : P i j) : ∃ k l, [V.int i, V.int j] = [.int k, .int l] ∧ P k l := ⟨i, j, rfl, q⟩
theorem r_all {bs : List Bool} (h : SqL K H p (bs.map V.bl)) (q : Q (.bl (bs.all id)) H) : rAll K [.ref p] H Q := ⟨p, bs, rfl, h, q⟩
theorem r_any {bs : List Bool} (h : SqL K H p (bs.map V.bl)) (q : Q (.bl (bs.any id)) H) : rAny K [.ref p] H Q := ⟨p, bs, rfl, h, q⟩
theorem r_allB {bs : List Bool} {b : Bool} (h : SqL K H p (bs.map V.bl)) (e : bs.all id = b) (q : Q (.bl b) H) : rAll K [.ref p] H Q := ⟨p, bs, rfl, h, by rw [e]; exact q⟩
theorem r_anyB {bs : List Bool} {b : Bool} (h : SqL K H p (bs.map V.bl)) (e : bs.any id = b) (q : Q (.bl b) H) : rAny K [.ref p] H Q := ⟨p, bs, rfl, h, by rw [e]; exact q⟩
theorem r_isi {b : Bool} {t u : Value} {c : V} (h1 : ClsV c u) (h2 : TyX K H x t) (h3 : PySem.W.kitOne K t u = some b) (q : Q (.bl b) H) : rIsi K [x, c] H Q := ⟨x, c, t, u, b, rfl, h1, h2, h3, q⟩
theorem r_make {sp : Sp} {dvs : List V} {E : XK} {Cc : Addr} (h : tas σ H fun vs H1 => ∀ x dx, H1 x = none → H1 dx = none → dx ≠ x → sp (.ref x :: (vs ++ dvs)) (upd (upd H1 dx (.own x)) x (.ins Cc dx [])) (fun v H2 => v = .non ∧ Q (.ref x) H2) E) : tMake Cc sp dvs E tas σ H Q := h
theorem r_meth {sp : Sp} {dvs : List V} {E : XK} {Cc : Addr} {m : Str} (h : ta σ H fun x H1 => ∃ a dx fs, x = .ref a ∧ H1 a = some (.ins Cc dx fs) ∧ fs.lookup m = none ∧ tas σ H1 fun vs H2 => sp (x :: (vs ++ dvs)) H2 Q E) : tMeth Cc m sp dvs E ta tas σ H Q := h
theorem r_prop {sp : Sp} {dvs : List V} {E : XK} {Cc : Addr} (h : ta σ H fun x H1 => ∃ a dx fs, x = .ref a ∧ H1 a = some (.ins Cc dx fs) ∧ sp (.ref a :: dvs) H1 Q E) : tProp Cc sp dvs E ta σ H Q := h
end
abbrev rLenX (K : PySem.W.Frag) : List V → Hp → VK → Prop := fun xs H Q => ∃ p ys, xs = [.ref p] ∧ (SqL K H p ys ∨ SqT K H p ys) ∧ Q (.int ys.length) H
abbrev rListX (K : PySem.W.Frag) : List V → Hp → VK → Prop := fun xs H Q => ∃ p ys, xs = [.ref p] ∧ (SqL K H p ys ∨ SqT K H p ys) ∧ ∀ l, H l = none → Q (.ref l) (upd H l (.lst ys))
abbrev rMax2X : List V → Hp → VK → Prop := fun xs H Q => ∃ i j, xs = [.int i, .int j] ∧ Q (.int (if j > i then j else i)) H
abbrev rMin2X : List V → Hp → VK → Prop := fun xs H Q => ∃ i j, xs = [.int i, .int j] ∧ Q (.int (if j < i then j else i)) H
/-! ## operators -/
section
variable {X : Cx}
/-- x ** n of any size below 2 ^ 27 bits -/
def CPowW (i j : Int) : Prop := 0 ≤ j ∧ (Builtin.Int.intBits i : Int) * j ≤ 2 ^ 27
theorem op_powW : OpR X (binaryOp .Pow) (rI CPowW fun i j => .int (i ^ j.toNat)) := opI fun _ _ _ _ _ _ _ hc q => pow_int hc.1 hc.2 q
theorem powW {i j : Int} {b : Nat} (h0 : 0 ≤ j) (hj : j ≤ 100) (hb : i.natAbs < 2 ^ b) (h : b ≤ 1000000) (h1 : 0 < b) : CPowW i j := by
  refine ⟨h0, ?_⟩
  have h2 : Builtin.Int.intBits i ≤ b := by
    unfold Builtin.Int.intBits
    have := PySem.Flt.log2_lt_of h1 hb
    split <;> omega
  have h3 : (Builtin.Int.intBits i : Int) ≤ 1000000 := by omega
  have h4 : (Builtin.Int.intBits i : Int) * j ≤ 1000000 * 100 := Int.mul_le_mul h3 hj h0 (by decide)
  omega
theorem pow10 {j : Int} (h : 0 ≤ j ∧ j ≤ 100) : CPowW 10 j := powW (b := 4) h.1 h.2 (by decide) (by decide) (by decide)
theorem natAbs_lt {x : Int} {n : Nat} (h0 : -(2 ^ n) < x) (h : x < 2 ^ n) : x.natAbs < 2 ^ n := by
  have e : ((2 ^ n : Nat) : Int) = (2 : Int) ^ n := by simp
  omega
end
theorem smalllt' {n : Nat} (h : n ≤ 99999) : n < PySem.sizeLine := Nat.lt_of_lt_of_le (show n < 100000 by omega) (by decide)
theorem small1000' {n : Nat} (h : n ≤ 100000) : n ≤ PySem.sizeLine := Nat.le_trans h (by decide)
set_option Elab.async false
set_option linter.all false
set_option maxRecDepth 100000
set_option maxHeartbeats 4000000
/-! ## facts of the top, by names -/
def propB (K : PySem.W.Frag) (C : Addr) (f : Str) : Bool := match PySem.W.findIn K (.ref C) f with
  | some (some (.ref p)) => He.eqO (PySem.W.specialIn K (.ref p) "__get__") (some (some (.builtin "property.__get__"))) && (decide (PySem.W.takesIn K (.ref p) = some true) && (match PySem.W.recIn K p "property" with
    | some (.ref _ :: _) => true
    | _ => false))
  | _ => false
/-- the getter of a property -/
def pgA (C f : Str) (K : PySem.W.Frag) : Addr := match PySem.W.findIn K (.ref (He.ga K C)) f with
  | some (some (.ref p)) => (match PySem.W.recIn K p "property" with
    | some (.ref g :: _) => g
    | _ => 0)
  | _ => 0
theorem propB_ok {K : PySem.W.Frag} {C f : Str} (h : propB K (He.ga K C) f = true) : ∃ p, PropOf K (He.ga K C) f p (pgA C f K) := by
  unfold propB at h
  unfold pgA
  cases e : PySem.W.findIn K (.ref (He.ga K C)) f with
  | none =>
    rw [e] at h
    cases h
  | some r =>
    cases r with
    | none =>
      rw [e] at h
      cases h
    | some u =>
      cases u with
      | ref p =>
        rw [e] at h
        dsimp only at h ⊢
        obtain ⟨h1, h2⟩ := He.ba h
        obtain ⟨h3, h4⟩ := He.ba h2
        cases e2 : PySem.W.recIn K p "property" with
        | none =>
          rw [e2] at h4
          cases h4
        | some l =>
          rw [e2] at h4
          cases l with
          | nil => cases h4
          | cons g r =>
            cases g with
            | ref g => exact ⟨p, e, He.eqO_ok h1, of_decide_eq_true h3, r, e2⟩
            | _ => cases h4
      | _ =>
        rw [e] at h
        cases h
inductive Fb where
  | b (f : He.Fa)
  | prop (C f : Str)
  | findB (C m : Str) (id : String)
  | isi (C : Str)
  | kit (C D : Str) (r : Bool)
  | tyc (C : Str)
def Fb.ok (K : PySem.W.Frag) : Fb → Bool
  | .b f => f.ok K
  | .prop C f => propB K (He.ga K C) f
  | .findB C m id => He.eqO (PySem.W.findIn K (.ref (He.ga K C)) m) (some (some (.builtin id)))
  | .isi C => He.eqO (PySem.W.findIn K (.ref (He.ga K C)) "__class__") (some (some (.builtin "object.__class__"))) && (He.eqO (PySem.W.specialIn K (.builtin "object.__class__") "__get__") (some (some (.builtin "getset_descriptor.__get__"))) &&
      (decide (PySem.W.takesIn K (.builtin "object.__class__") = some true) && decide (PySem.W.mroIn K (He.ga K C) (.type "object") = some true)))
  | .kit C D r => decide (PySem.W.kitOne K (.ref (He.ga K C)) (.ref (He.ga K D)) = some r)
  | .tyc C => (PySem.W.clsIn K (He.ga K C)).isSome && decide (PySem.W.typeIn K (.ref (He.ga K C)) = some (.type "type"))
/-- a def: its address by names -/
structure Df where
  at_ : PySem.W.Frag → Addr
  name : Str
  qual : Str
  st : Stmt
def Df.da (d : Df) : He5.DefA := ⟨d.at_, d.name, d.qual, defArgs d.st, defBody d.st, defScope d.st, [], []⟩
def obsM (fa : List Fb) (fn : List Df) (K : PySem.W.Frag) : He.AlD := ((fa.all fun f => f.ok K) && fn.all fun d => d.da.ok K, fn.map fun d => He5.fnA K (d.at_ K))
def valM (fn : List Df) : He.AlD := (true, fn.map fun d => d.da.val)
def SaysM (fa : List Fb) (fn : List Df) (K : PySem.W.Frag) : Prop := obsM fa fn K = valM fn
def obsMG (n : Nat) (fa : List Fb) (fn : List Df) (g : Addr → Option Obj) : He.AlD := obsM fa fn (He.frG g (He5.asA g n))
def hookM (n : Nat) (fa : List Fb) (fn : List Df) : PySem.W.Hook where
  α := He.AlD
  obs := fun s => obsMG n fa fn s.heap.get?
  val := fun _ => valM fn
  says := fun _ h => ∃ K : PySem.W.Frag, K.In h ∧ SaysM fa fn K
  of := fun _ _ e => ⟨_, He.frG_in, e⟩
  keeps := fun _ _ _ ⟨K, hK, c⟩ k => ⟨K, PySem.W.Frag.In.keeps hK k, c⟩
theorem obsMG_eq {n : Nat} {fa : List Fb} {fn : List Df} {g : Addr → Option Obj} {s : Shared} (h : ∀ a, g a = s.heap.get? a) : obsMG n fa fn g = (hookM n fa fn).obs s := by
  have e : g = s.heap.get? := funext h
  rw [e] <;> rfl
/-- the top's facts, the base heap -/
structure Tx (fa : List Fb) (fn : List Df) (K : PySem.W.Frag) (mg : Str → Option Value) (base : Heap) : Prop where
  says : SaysM fa fn K
  kin : K.In base
  ns : base.Ns mainGlobals mg
section
variable {fa : List Fb} {fn : List Df} {K : PySem.W.Frag} {mg : Str → Option Value} {base : Heap} {P : Program} {w : World}
theorem Tx.fact (T : Tx fa fn K mg base) (i : Nat) {f : Fb} (h : fa[i]? = some f := by rfl) : f.ok K = true := by
  have c1 := (He.ba (show ((fa.all fun f => f.ok K) && fn.all fun d => d.da.ok K) = true from congrArg (fun z : He.AlD => z.1) T.says)).1
  exact List.all_eq_true.mp c1 f (List.mem_of_getElem? h)
theorem Tx.def_ (T : Tx fa fn K mg base) (i : Nat) {d : Df} (h : fn[i]? = some d := by rfl) : ∃ fd, FunD K d.name d.qual (defArgs d.st) (defBody d.st) (defScope d.st) [] [] (d.at_ K) fd := by
  have c2 := (He.ba (show ((fa.all fun f => f.ok K) && fn.all fun d => d.da.ok K) = true from congrArg (fun z : He.AlD => z.1) T.says)).2
  have e : fn.map (fun d => He5.fnA K (d.at_ K)) = fn.map (fun d => d.da.val) := congrArg (fun z : He.AlD => z.2) T.says
  have e2 : (fn.map fun d => He5.fnA K (d.at_ K))[i]? = (fn.map fun d => d.da.val)[i]? := by rw [e]
  rw [List.getElem?_map, List.getElem?_map, h] at e2
  exact He5.DefA.funD (d := d.da) (Option.some.inj e2) (List.all_eq_true.mp c2 d (List.mem_of_getElem? h))
theorem Tx.fr (T : Tx fa fn K mg base) (i : Nat) {x : Str} (h : fa[i]? = some (.b (.free x)) := by rfl) : mg x = none := He.free_ok T.kin T.ns (T.fact i h)
theorem Tx.glo (T : Tx fa fn K mg base) (i : Nat) {x : Str} (h : fa[i]? = some (.b (.glo x)) := by rfl) : mg x = some (.ref (He.ga K x)) := He.glo_ok T.kin T.ns (T.fact i h)
theorem Tx.int (T : Tx fa fn K mg base) (i : Nat) {x : Str} {n : Int} (h : fa[i]? = some (.b (.int x n)) := by rfl) : ∃ t, mg x = some (.int n t) := He.int_ok T.kin T.ns (T.fact i h)
theorem Tx.cls (T : Tx fa fn K mg base) (i : Nat) {x : Str} (h : fa[i]? = some (.b (.cls x)) := by rfl) : Cls K (He.ga K x) := He.cls_ok (T.fact i h)
theorem Tx.noat (T : Tx fa fn K mg base) (i : Nat) {x f : Str} (h : fa[i]? = some (.b (.noat x f)) := by rfl) : NoAttr K (He.ga K x) f := He.noat_ok (T.fact i h)
theorem Tx.meth (T : Tx fa fn K mg base) (i : Nat) {x m : Str} (h : fa[i]? = some (.b (.meth x m)) := by rfl) : Meth K (He.ga K x) m (He.ma K (He.ga K x) m) := He.meth_ok (T.fact i h)
theorem Tx.mkr (T : Tx fa fn K mg base) (i : Nat) {x : Str} (h : fa[i]? = some (.b (.mkr x)) := by rfl) : Mk K (He.ga K x) (He.ma K (He.ga K x) "__init__") := He.mkr_ok (T.fact i h)
theorem Tx.prop (T : Tx fa fn K mg base) (i : Nat) {C f : Str} (h : fa[i]? = some (.prop C f) := by rfl) : ∃ p, PropOf K (He.ga K C) f p (pgA C f K) := propB_ok (T.fact i h)
theorem Tx.findB (T : Tx fa fn K mg base) (i : Nat) {C m : Str} {id : String} (h : fa[i]? = some (.findB C m id) := by rfl) : PySem.W.findIn K (.ref (He.ga K C)) m = some (some (.builtin id)) := He.eqO_ok (T.fact i h)
theorem Tx.kit (T : Tx fa fn K mg base) (i : Nat) {C D : Str} {r : Bool} (h : fa[i]? = some (.kit C D r) := by rfl) : PySem.W.kitOne K (.ref (He.ga K C)) (.ref (He.ga K D)) = some r := of_decide_eq_true (T.fact i h)
theorem Tx.isi (T : Tx fa fn K mg base) (i j : Nat) {C : Str} {H : Hp} {a dx : Addr} {fs : List (Str × V)} (e : H a = some (.ins (He.ga K C) dx fs)) (h : fa[i]? = some (.isi C) := by rfl) (hj : fa[j]? = some (.b (.cls C)) := by rfl) : TyX K H (.ref a) (.ref (He.ga K C)) := by
  obtain ⟨h1, h2⟩ := He.ba (T.fact i h)
  obtain ⟨h3, h4⟩ := He.ba h2
  obtain ⟨h5, h6⟩ := He.ba h4
  exact .base (.ins e (T.cls j hj) (He.eqO_ok h1) (He.eqO_ok h3) (of_decide_eq_true h5) (of_decide_eq_true h6))
theorem Tx.tyc (T : Tx fa fn K mg base) (i : Nat) {C : Str} {t : Value} {r : Bool} (n : (t == .ref (He.ga K C)) = false) (e : PySem.W.subIn K t (.ref (He.ga K C)) = some r) (h : fa[i]? = some (.tyc C) := by rfl) : PySem.W.kitOne K t (.ref (He.ga K C)) = some r := by
  obtain ⟨h1, h2⟩ := He.ba (T.fact i h)
  have h3 := of_decide_eq_true h2
  unfold PySem.W.kitOne
  rw [n, if_neg (by decide)]
  unfold PySem.W.kitCls
  dsimp only
  rw [h1, h3, if_pos (by decide)]
  exact e
theorem Tx.mroI (T : Tx fa fn K mg base) (i : Nat) {C : Str} (h : fa[i]? = some (.isi C) := by rfl) : PySem.W.mroIn K (He.ga K C) (.type "object") = some true := by
  obtain ⟨_, h2⟩ := He.ba (T.fact i h)
  obtain ⟨_, h4⟩ := He.ba h2
  obtain ⟨_, h6⟩ := He.ba h4
  exact of_decide_eq_true h6
/-! ## defs with their promises, by names -/
structure Fk (P : Program) (w : World) (K : PySem.W.Frag) (mg : Str → Option Value) (base : Heap) (x : Str) (ps : List Str) (k : Nat) (sp : Sp) (st : Stmt) (q : Str) : Prop where
  ex : ∃ (f : Addr) (fd : FuncData), FnOk P w K mg base CX0 k f fd ps sp ∧ mg x = some (.ref f) ∧ PySem.W.keepIn K (.ref f) = true ∧ Binds K fd ps [] ∧ FunD K x q (defArgs st) (defBody st) (defScope st) [] [] f fd
structure Mth (P : Program) (w : World) (K : PySem.W.Frag) (mg : Str → Option Value) (base : Heap) (C : Addr) (m : Str) (ps : List Str) (k : Nat) (sp : Sp) (st : Stmt) (q : Str) : Prop where
  ex : ∃ (f : Addr) (fd : FuncData), FnOk P w K mg base CX0 k f fd ps sp ∧ Meth K C m f ∧ Binds K fd ps [] ∧ Cls K C ∧ FunD K m q (defArgs st) (defBody st) (defScope st) [] [] f fd
structure Ini (P : Program) (w : World) (K : PySem.W.Frag) (mg : Str → Option Value) (base : Heap) (C : Addr) (ps : List Str) (k : Nat) (sp : Sp) (st : Stmt) (q : Str) : Prop where
  ex : ∃ (f : Addr) (fd : FuncData), FnOk P w K mg base CX0 k f fd ps sp ∧ Mk K C f ∧ Binds K fd ps [] ∧ FunD K "__init__" q (defArgs st) (defBody st) (defScope st) [] [] f fd
structure Prp (P : Program) (w : World) (K : PySem.W.Frag) (mg : Str → Option Value) (base : Heap) (C : Addr) (x : Str) (k : Nat) (sp : Sp) : Prop where
  ex : ∃ (p g : Addr) (fd : FuncData), FnOk P w K mg base CX0 k g fd ["self"] sp ∧ PropOf K C x p g ∧ Binds K fd ["self"] [] ∧ Cls K C
/-- what a def's proof is made of -/
def BndOk (d : Df) (ps : List Str) : Prop := ∀ (kV doc pm : Value) (an : Option Addr) (cdv ct : Value) (us : List Value), us.length = ps.length → bindArgs (PySem.W.fnOf d.name d.qual (defArgs d.st) (defBody d.st) (defScope d.st) .none kV doc pm an cdv ct) ⟨us, []⟩ = pure (ps.zip us)
def BodyOk (P : Program) (w : World) (K : PySem.W.Frag) (mg : Str → Option Value) (base : Heap) (d : Df) (N : List Str) (k : Nat) (sp : Sp) : Prop :=
  ∀ (cdv : Value) (A : Around) (outer : List Env) (s : Shared) (H : Hp) (vs : List V) (Q : VK) (E : XK), Room k (A.deeper (envOfC d.qual (defScope d.st) s.heap.objs.size (d.at_ K) cdv)) → sp vs H Q E →
      ∃ t, PSs (cxOf CX0 P w K mg base N d.qual (defScope d.st) (d.at_ K) cdv A outer s H E).nox (defBody d.st) t ∧ t { nx := fun _ H' => Q .non H', rt := Q } (start N vs) H
theorem Tx.ok (T : Tx fa fn K mg base) (i : Nat) {d : Df} {N ps : List Str} {k : Nat} {sp : Sp} (S : FnScope N ps (defScope d.st)) (hb : BndOk d ps) (len : ∀ vs H Q E, sp vs H Q E → vs.length = ps.length) (body : BodyOk P w K mg base d N k sp) (hd : fn[i]? = some d := by rfl) :
    ∃ fd, FnOk P w K mg base CX0 (k + 1) (d.at_ K) fd ps sp ∧ PySem.W.keepIn K (.ref (d.at_ K)) = true ∧ Binds K fd ps [] ∧ FunD K d.name d.qual (defArgs d.st) (defBody d.st) (defScope d.st) [] [] (d.at_ K) fd := by
  obtain ⟨fd, F⟩ := T.def_ i hd
  refine ⟨fd, F.ok S len fun cdv A outer s H vs Q E hr h => ?_, F.kp, F.bindsN hb, F⟩
  obtain ⟨t, h1, h2⟩ := body cdv A outer s H vs Q E hr h
  exact ⟨t, PSs.nox h1, h2⟩
theorem Tx.fk (T : Tx fa fn K mg base) (i j : Nat) {x q : Str} {st : Stmt} {N ps : List Str} {k : Nat} {sp : Sp} (S : FnScope N ps (defScope st)) (hb : BndOk ⟨fun K => He.ga K x, x, q, st⟩ ps) (len : ∀ vs H Q E, sp vs H Q E → vs.length = ps.length)
    (body : BodyOk P w K mg base ⟨fun K => He.ga K x, x, q, st⟩ N k sp) (hd : fn[i]? = some ⟨fun K => He.ga K x, x, q, st⟩ := by rfl) (hg : fa[j]? = some (.b (.glo x)) := by rfl) : Fk P w K mg base x ps (k + 1) sp st q := by
  obtain ⟨fd, F, kp, b, fu⟩ := T.ok i (d := ⟨fun K => He.ga K x, x, q, st⟩) S hb len body hd
  exact ⟨_, fd, F, T.glo j hg, kp, b, fu⟩
theorem Tx.mth (T : Tx fa fn K mg base) (i j c : Nat) {C m q : Str} {st : Stmt} {N ps : List Str} {k : Nat} {sp : Sp} (S : FnScope N ps (defScope st)) (hb : BndOk ⟨fun K => He.ma K (He.ga K C) m, m, q, st⟩ ps) (len : ∀ vs H Q E, sp vs H Q E → vs.length = ps.length)
    (body : BodyOk P w K mg base ⟨fun K => He.ma K (He.ga K C) m, m, q, st⟩ N k sp) (hd : fn[i]? = some ⟨fun K => He.ma K (He.ga K C) m, m, q, st⟩ := by rfl) (hg : fa[j]? = some (.b (.meth C m)) := by rfl) (hc : fa[c]? = some (.b (.cls C)) := by rfl) : Mth P w K mg base (He.ga K C) m ps (k + 1) sp st q := by
  obtain ⟨fd, F, kp, b, fu⟩ := T.ok i (d := ⟨fun K => He.ma K (He.ga K C) m, m, q, st⟩) S hb len body hd
  exact ⟨_, fd, F, T.meth j hg, b, T.cls c hc, fu⟩
theorem Tx.ini (T : Tx fa fn K mg base) (i j : Nat) {C q : Str} {st : Stmt} {N ps : List Str} {k : Nat} {sp : Sp} (S : FnScope N ps (defScope st)) (hb : BndOk ⟨fun K => He.ma K (He.ga K C) "__init__", "__init__", q, st⟩ ps) (len : ∀ vs H Q E, sp vs H Q E → vs.length = ps.length)
    (body : BodyOk P w K mg base ⟨fun K => He.ma K (He.ga K C) "__init__", "__init__", q, st⟩ N k sp) (hd : fn[i]? = some ⟨fun K => He.ma K (He.ga K C) "__init__", "__init__", q, st⟩ := by rfl) (hg : fa[j]? = some (.b (.mkr C)) := by rfl) : Ini P w K mg base (He.ga K C) ps (k + 1) sp st q := by
  obtain ⟨fd, F, kp, b, fu⟩ := T.ok i (d := ⟨fun K => He.ma K (He.ga K C) "__init__", "__init__", q, st⟩) S hb len body hd
  exact ⟨_, fd, F, T.mkr j hg, b, fu⟩
theorem Tx.prp (T : Tx fa fn K mg base) (i j c : Nat) {C m q : Str} {st : Stmt} {N : List Str} {k : Nat} {sp : Sp} (S : FnScope N ["self"] (defScope st)) (hb : BndOk ⟨pgA C m, m, q, st⟩ ["self"]) (len : ∀ vs H Q E, sp vs H Q E → vs.length = ["self"].length)
    (body : BodyOk P w K mg base ⟨pgA C m, m, q, st⟩ N k sp) (hd : fn[i]? = some ⟨pgA C m, m, q, st⟩ := by rfl) (hg : fa[j]? = some (.prop C m) := by rfl) (hc : fa[c]? = some (.b (.cls C)) := by rfl) : Prp P w K mg base (He.ga K C) m (k + 1) sp := by
  obtain ⟨fd, F, kp, b, fu⟩ := T.ok i (d := ⟨pgA C m, m, q, st⟩) S hb len body hd
  obtain ⟨p, hp⟩ := T.prop j hg
  exact ⟨p, _, fd, F, hp, b, T.cls c hc⟩
end
/-! ## calls by names -/
section
variable {X : Cx} {x m q : Str} {st : Stmt} {ps : List Str} {k j : Nat} {sp : Sp} {p pos apos : Pos} {e o : Expr} {es : List Expr} {t : TA} {ta : TE} {C : Addr}
theorem pe_f (h : Fk X.prog X.w X.K X.mg X.base x ps k sp st q) (hr : Room j X.A) (ha : PA X (e :: es) t) (hj : k ≤ j := by decide) (hg : Gl X x := by rfl) (hdb : (x == ("__debug__" : Str)) = false := by decide)
    (he : starEach (e :: es) X.env = (false, eval e X.env) :: starEach es X.env := by rfl) (hpl : (backTo pos (starEach es X.env)).any (·.1) = false := by rfl) : PE X (.Call (.Name x p) (e :: es) [] pos) (tCall sp [] E0 t) := by
  obtain ⟨f, fd, F, hm, kp, b, _⟩ := h.ex
  exact pe_call F (hr.mono hj) hg hm kp b .nil pass0 ha hdb he hpl
theorem pe_m {pl : Sem Bool} (ho : PE X o ta) (h : Mth X.prog X.w X.K X.mg X.base C m ps k sp st q) (hr : Room j X.A) (ha : PA X (e :: es) t) (hj : k ≤ j := by decide)
    (hst : starEach (e :: es) X.env = (false, eval e X.env) :: starEach es X.env := by rfl) (hpl : (backTo pos (starEach es X.env)).any (·.1) = false := by rfl)
    (ht : eval (.Call (.Attribute o m apos) (e :: es) [] pos) X.env = (do
      let ov ← eval o X.env
      standAt apos.atName
      let (f, first) ← holding [ov] (getMethod ov m pl)
      callWith pos f first (backTo pos (starEach (e :: es) X.env)) (backToKw pos (keywordEach [] X.env))) := by rfl) : PE X (.Call (.Attribute o m apos) (e :: es) [] pos) (tMeth C m sp [] E0 ta t) := by
  obtain ⟨f, fd, F, hm, b, c, _⟩ := h.ex
  exact pe_meth ho c hm F (hr.mono hj) b .nil pass0 ha hst hpl ht
theorem pe_m0 {pl : Sem Bool} (ho : PE X o ta) (h : Mth X.prog X.w X.K X.mg X.base C m ps k sp st q) (hr : Room j X.A) (hj : k ≤ j := by decide)
    (ht : eval (.Call (.Attribute o m apos) [] [] pos) X.env = (do
      let ov ← eval o X.env
      standAt apos.atName
      let (f, first) ← holding [ov] (getMethod ov m pl)
      callWith pos f first (backTo pos (starEach [] X.env)) (backToKw pos (keywordEach [] X.env))) := by rfl) : PE X (.Call (.Attribute o m apos) [] [] pos) (tMeth C m sp [] E0 ta tNil) := by
  obtain ⟨f, fd, F, hm, b, c, _⟩ := h.ex
  exact pe_meth0 ho c hm F (hr.mono hj) b .nil pass0 ht
theorem pe_mk (h : Ini X.prog X.w X.K X.mg X.base C ps k sp st q) (hm : X.mg x = some (.ref C)) (hr : Room j X.A) (ha : PA X (e :: es) t) (hj : k + 1 ≤ j := by decide) (hg : Gl X x := by rfl) (hdb : (x == ("__debug__" : Str)) = false := by decide)
    (he : starEach (e :: es) X.env = (false, eval e X.env) :: starEach es X.env := by rfl) (hpl : (backTo pos (starEach es X.env)).any (·.1) = false := by rfl) : PE X (.Call (.Name x p) (e :: es) [] pos) (tMake C sp [] E0 t) := by
  obtain ⟨f, fd, F, M, b, _⟩ := h.ex
  exact pe_make M F (hr.mono hj) hg hm b .nil pass0 ha hdb he hpl
/-- how keywords bind, by the def's own text -/
def KwOk (x q : Str) (st : Stmt) (ps ks : List Str) (n : Nat) (g : {α : Type} → List α → List α → List α) : Prop :=
  ∀ (kV doc pm : Value) (an : Option Addr) (cdv ct : Value) (us ws : List Value), us.length = n → ws.length = ks.length → bindArgs (PySem.W.fnOf x q (defArgs st) (defBody st) (defScope st) .none kV doc pm an cdv ct) ⟨us, ks.zip ws⟩ = pure (ps.zip (g us ws))
theorem kw_to {K : PySem.W.Frag} {x q : Str} {st : Stmt} {ps ks : List Str} {n : Nat} {g : {α : Type} → List α → List α → List α} {f : Addr} {fd : FuncData} (F : FunD K x q (defArgs st) (defBody st) (defScope st) [] [] f fd) (h : KwOk x q st ps ks n g) :
    ∀ (s : Shared) (us ws : List Value), us.length = n → ws.length = ks.length → BindsTo s fd ⟨us, ks.zip ws⟩ (ps.zip (g us ws)) := by
  obtain ⟨oc, od, dV, kV, doc, pm, an, cdv, ct, osl, rfl, lk, hcd, hD, hK⟩ := F.ex
  intro s us ws h1 h2
  rcases hD with ⟨_, rfl⟩ | ⟨e, _⟩
  · exact .of_eq (h kV doc pm an cdv ct us ws h1 h2)
  · exact absurd rfl e
/-- o.m(k = e, ..) -/
def tMethK (C : Addr) (m : Str) (n : Nat) (sp : Sp) (g : List V → List V → List V) (ta : TE) (tk : TA) : TE := fun σ H Q => ta σ H fun x H1 => ∃ a dx fs, x = .ref a ∧ H1 a = some (.ins C dx fs) ∧ fs.lookup m = none ∧ tk σ H1 fun zs H2 => zs.length = n ∧ sp (g [x] zs) H2 Q E0
theorem pe_mK {pl : Sem Bool} {kws : List Keyword} {tk : TA} {ks : List Str} {g : {α : Type} → List α → List α → List α} (ho : PE X o ta) (h : Mth X.prog X.w X.K X.mg X.base C m ps k sp st q) (hr : Room j X.A) (kb : KwOk m q st ps ks 1 g)
    (rel : ∀ {vs : List V} {us : List Value} {zs : List V} {ws : List Value}, Vals vs us → Vals zs ws → zs.length = ks.length → vs.length = 1 → Vals (g vs zs) (g us ws)) (hkw : PK X kws tk) (hj : k ≤ j := by decide)
    (hall : (backToKw pos (keywordEach kws X.env)).all (·.1.isSome) = true := by rfl) (hks : (backToKw pos (keywordEach kws X.env)).filterMap (·.1) = ks := by rfl)
    (hpl : ((backTo pos (starEach [] X.env)).any (·.1) || (backToKw pos (keywordEach kws X.env)).any (·.1.isNone)) = false := by rfl)
    (ht : eval (.Call (.Attribute o m apos) [] kws pos) X.env = (do
      let ov ← eval o X.env
      standAt apos.atName
      let (f, first) ← holding [ov] (getMethod ov m pl)
      callWith pos f first (backTo pos (starEach [] X.env)) (backToKw pos (keywordEach kws X.env))) := by rfl) : PE X (.Call (.Attribute o m apos) [] kws pos) (tMethK C m ks.length sp g ta tk) := by
  obtain ⟨f, fd, F, hm, b, c, fu⟩ := h.ex
  have to := kw_to fu kb
  refine ⟨fun pins s σ H Q I h => ?_⟩
  refine PySem.W.methodCall_KW (pl := pl) (thn (ho.run pins s σ H _ I h) fun u s1 ⟨x, H1, I1, rx, a, dx, fs, ex, ea, l, q1⟩ => ?_) ht
  subst ex
  obtain rfl : u = Value.ref a := rx
  refine getmeth_ok I1 ea c hm l ?_
  refine PySem.W.callWith_KW0 (h₀ := X.base) (first := [.ref a]) I.ok.mod.kin hm.kp hall (thn (hkw.run pos pins s1 σ H1 _ I1 q1) fun ws s2 ⟨zs, H2, I2, rz, hz, q2⟩ => ⟨I2.kIn, ?_⟩) hpl
  rw [hks]
  have r0 : Vals [V.ref a] [Value.ref a] := .cons rfl .nil
  have r2 := rel r0 rz hz rfl
  refine wpAny_call (codeAny_mono (F.run X.A X.stack s2 H2 ⟨[.ref a], ks.zip ws⟩ (g [.ref a] ws) (g [.ref a] zs) Q E0 (hr.mono hj) I2.env0 (to s2 [.ref a] ws rfl (rz.length.symm.trans hz)) r2 q2) fun r s' hq => ?_)
  cases r with
  | error e => exact hq.elim
  | ok fl =>
    cases fl with
    | ret u => exact I2.after hq
    | next => exact False.elim hq
    | brk => exact False.elim hq
    | cont => exact False.elim hq
theorem pe_pr (he : PE X o ta) (h : Prp X.prog X.w X.K X.mg X.base C x k sp) (hr : Room j X.A) (hj : k + 1 ≤ j := by decide) (hab : attributeBase o x X.env (eval o X.env) = eval o X.env := by rfl) : PE X (.Attribute o x pos) (tProp C sp [] E0 ta) := by
  obtain ⟨p, g, fd, F, hp, b, c⟩ := h.ex
  exact pe_prop he c hp F (hr.mono hj) b .nil pass0 hab
end
set_option Elab.async false
set_option linter.all false
set_option maxRecDepth 100000
set_option maxHeartbeats 4000000
section
variable {X : Cx}
theorem pe_globI {x : Str} {n : Int} {pos : Pos} (h : ∃ t, X.mg x = some (.int n t)) (hg : Gl X x := by rfl) (hd : (x == ("__debug__" : Str)) = false := by decide) : PE X (.Name x pos) (tC (.int n)) := by
  obtain ⟨t, e⟩ := h
  exact pe_glob hg e ⟨t, rfl⟩ hd
end
/-! ## comprehensions -/
section
variable {J : It} {n : Nat} {GG : Hp → Prop} {Y : Nat → Hp → V → Hp → Prop} {g : TG} {te : TE} {vs : List Nat} {σ : L2.St} {H1 : Hp} {Q : VK}
theorem Fr.mut {J : List Addr} {H H1 : Hp} {p : Addr} {o : HO} (a : Fr J H H1) (hp : H p = none) : Fr J H (upd H1 p o) := fun x u hx h => by
  rw [upd_ne (ne_of_none h hp)]
  exact a x u hx h
/-- a list made item by item, nothing that stood changed -/
theorem lc_pure (w : Walk J n GG Y) (f : Nat → V) (hn : n ≤ 100000) (hG : ∀ H', Fr [] H1 H' → GG H') (hY : ∀ i H' x H'', Y i H' x H'' → Fr [] H' H'')
    (he : ∀ i x H' H'' (R : VK), i < n → Fr [] H1 H' → Y i H' x H'' → (∀ H4, Fr [] H'' H4 → R (f i) H4) → g x (wipe σ vs) H'' fun σ2 H2 => wipe σ2 vs = wipe σ vs ∧ te σ2 H2 R)
    (hd : ∀ D H', H1 D = none → Fr [] H1 H' → H' D = some (.lst ((List.range n).map f)) → Q (.ref D) H') : LcJ g tYes te vs σ Q J H1 := by
  intro D hD
  refine lc_it w (fun i H' => i ≤ n ∧ Fr [] H1 H' ∧ H' D = some (.lst ((List.range i).map f))) ⟨Nat.zero_le _, (Fr.refl H1).mut hD, upd_same⟩ (fun i H' _ p => hG H' p.2.1) (fun i x H' H'' hi p y => ?_) (fun H' p => hd D H' hD p.2.1 p.2.2)
  obtain ⟨p1, p2, p3⟩ := p
  have hf := hY i H' x H'' y
  refine he i x H' H'' (fun y H4 => ∃ acc, H4 D = some (.lst acc) ∧ acc.length < sizeLine ∧ (i + 1 ≤ n ∧ Fr [] H1 (upd H4 D (.lst (acc ++ [y]))) ∧ (upd H4 D (.lst (acc ++ [y]))) D = some (.lst ((List.range (i + 1)).map f)))) hi p2 y fun H4 e4 => ?_
  have e5 : Fr [] H' H4 := hf.trans e4
  refine ⟨_, e5 _ _ (fun z => nomatch z) p3, ?_, hi, (p2.trans e5).mut hD, ?_⟩
  · rw [List.length_map, List.length_range]
    exact Nat.lt_of_lt_of_le (show i < 100001 by omega) (by decide)
  · rw [upd_same, List.range_succ, List.map_append]
    rfl
end
theorem r_iteY {c A B : Prop} [Decidable c] (hc : c) (h : A) : if decide c = true then A else B := by
  rw [if_pos (decide_eq_true hc)]
  exact h
theorem r_iteZ {c A B : Prop} [Decidable c] (hc : ¬ c) (h : B) : if decide c = true then A else B := by
  rw [if_neg (fun z => hc (of_decide_eq_true z))]
  exact h
theorem r_iteNY {c A B : Prop} [Decidable c] (hc : c) (h : B) : if (!decide c) = true then A else B := iteNS hc h
theorem r_iteNZ {c A B : Prop} [Decidable c] (hc : ¬ c) (h : A) : if (!decide c) = true then A else B := by
  rw [decide_eq_false hc]
  exact iteT h
/-- the i-th number -/
def nth (ns : List Int) (i : Nat) : Int := ns.getD i 0
theorem nth_at {ns : List Int} {i : Nat} {x : V} (h : (ns.map V.int)[i]? = some x) : x = .int (nth ns i) := by
  rw [List.getElem?_map] at h
  unfold nth
  rw [List.getD_eq_getElem?_getD]
  cases e : ns[i]? with
  | none =>
    rw [e] at h
    cases h
  | some z =>
    rw [e] at h
    exact (Option.some.inj h).symm
theorem at_nth {ns : List Int} {i : Nat} (h : i < ns.length) : (ns.map V.int)[i]? = some (.int (nth ns i)) := by
  rw [List.getElem?_map, List.getElem?_eq_getElem h]
  unfold nth
  rw [List.getD_eq_getElem?_getD, List.getElem?_eq_getElem h]
  rfl
theorem getElem_nth {ns : List Int} {i : Nat} (h : i < ns.length) : ns[i] = nth ns i := by
  unfold nth
  rw [List.getD_eq_getElem?_getD, List.getElem?_eq_getElem h]
  rfl
theorem range_nth (ns : List Int) : (List.range ns.length).map (nth ns) = ns := by
  refine List.ext_getElem (by simp) fun i h1 h2 => ?_
  rw [List.getElem_map, List.getElem_range, getElem_nth h2]
theorem range_map (ns : List Int) (g : Int → Int) : (List.range ns.length).map (fun i => V.int (g (nth ns i))) = (ns.map g).map V.int := by
  have e : (fun i => V.int (g (nth ns i))) = (V.int ∘ g) ∘ nth ns := rfl
  rw [e, ← List.map_map, range_nth, List.map_map]
/-- [g(x) for x in a], nothing that stood changed -/
theorem lc_map {K : PySem.W.Frag} {a : Addr} {te : TE} {vs : List Nat} {σ : L2.St} {H1 : Hp} {Q : VK} {k : Nat} {ns : List Int} (g : Int → Int) (ha : SqL K H1 a (ns.map V.int)) (hn : ns.length ≤ 100000) (hw : ∀ x, wipe ((wipe σ vs).set k (some x)) vs = wipe σ vs)
    (he : ∀ i H' (R : VK), i < ns.length → Fr [] H1 H' → (∀ H4, Fr [] H' H4 → R (.int (g (nth ns i))) H4) → te ((wipe σ vs).set k (some (.int (nth ns i)))) H' R)
    (hd : ∀ D H', H1 D = none → Fr [] H1 H' → H' D = some (.lst ((ns.map g).map V.int)) → Q (.ref D) H') : LcJ (gName k) tYes te vs σ Q (Itl K a) H1 := by
  have e1 : (ns.map V.int).length = ns.length := List.length_map _
  refine lc_pure (walk_list (xs := ns.map V.int)) (fun i => .int (g (nth ns i))) (by omega) (fun H' e => e.sql ha (fun z => nomatch z)) (fun i H' x H'' y => by rw [y.1]; exact Fr.refl _) (fun i x H' H'' R hi e y kR => ?_) (fun D H' hD e hD' => ?_)
  · obtain ⟨rfl, hx⟩ := y
    rw [nth_at hx]
    exact ⟨hw _, he i _ R (by omega) e kR⟩
  · rw [e1, range_map] at hD'
    exact hd D H' hD e hD'
theorem cut_last (xs : List V) : cutV xs none (some (-1)) = xs.dropLast := by
  unfold cutV
  rw [List.dropLast_eq_take, show HT.sIx xs.length 0 none = 0 from rfl, List.drop_zero, show HT.sIx xs.length xs.length (some (-1)) = ((-1 : Int) + (xs.length : Int)).toNat from rfl]
  congr 1
  omega
theorem atI_nth {ns : List Int} {i : Int} (h0 : 0 ≤ i) (h : i < ns.length) : atI (ns.map V.int) i = some (.int (nth ns i.toNat)) := by
  obtain ⟨k, rfl⟩ := Int.eq_ofNat_of_zero_le h0
  rw [atI_nat (at_nth (by omega))]
  rfl
theorem atI_end {ns : List Int} (h : 0 < ns.length) : atI (ns.map V.int) (-1) = some (.int (nth ns (ns.length - 1))) := by
  have e : ns = ns.take (ns.length - 1) ++ [nth ns (ns.length - 1)] := by
    rw [← getElem_nth (show ns.length - 1 < ns.length by omega)]
    have := List.take_append_getElem (l := ns) (i := ns.length - 1) (by omega)
    rw [this, List.take_of_length_le (by omega)]
  have e2 : ns.map V.int = (ns.take (ns.length - 1)).map V.int ++ [.int (nth ns (ns.length - 1))] := by
    rw [show [V.int (nth ns (ns.length - 1))] = [nth ns (ns.length - 1)].map V.int from rfl, ← List.map_append, ← e]
  rw [e2, atI_last]
/-- no number of the first is above its one of the second -/
def leAll (ns ms : List Int) : Bool := (List.range (min ns.length ms.length)).all fun i => decide (nth ns i ≤ nth ms i)
theorem leAll_of {ns ms : List Int} (h : ∀ i, i < ns.length → nth ns i ≤ nth ms i) : leAll ns ms = true := by
  unfold leAll
  refine List.all_eq_true.mpr fun i hi => decide_eq_true (h i ?_)
  have := List.mem_range.mp hi
  omega
/-! ## own == and != -/
section
variable {X : Cx} {C : Addr} {k : Nat}
/-- what the own == promises, any answer -/
abbrev rEqP (C : Addr) (sp : Sp) : R2 := fun x y H Q => ∃ a dx fs b dy gs, x = .ref a ∧ y = .ref b ∧ H a = some (.ins C dx fs) ∧ H b = some (.ins C dy gs) ∧ sp [.ref a, .ref b] H (fun v H' => ∃ r, v = .bl r ∧ Q (.bl r) H') E0
abbrev rNeP (C : Addr) (sp : Sp) : R2 := fun x y H Q => ∃ a dx fs b dy gs, x = .ref a ∧ y = .ref b ∧ H a = some (.ins C dx fs) ∧ H b = some (.ins C dy gs) ∧ sp [.ref a, .ref b] H (fun v H' => ∃ r, v = .bl r ∧ Q (.bl (!r)) H') E0
theorem op_eqP {sp : Sp} {st0 : Stmt} {q0 : Str} (h : Mth X.prog X.w X.K X.mg X.base C "__eq__" ["self", "other"] k sp st0 q0) (hr0 : Room (k + 1) X.A) : OpR X (compareOp .Eq) (rEqP C sp) := by
  intro pins s σ H x y v u Q I rx ry hq
  obtain ⟨f, fd, F, hm, b0, cl, _⟩ := h.ex
  obtain ⟨a, dx, fs, b, dy, gs, rfl, rfl, ha, hb, hsp⟩ := hq
  cases rx
  cases ry
  have hr : Room k X.A := hr0.mono (Nat.le_succ _)
  obtain ⟨mA, J, _⟩ := ins_get I.hok ha
  obtain ⟨mB, J', _⟩ := ins_get I.hok hb
  obtain ⟨od, J, _⟩ := J.look
  obtain ⟨od', J', _⟩ := J'.look
  obtain ⟨m, hF⟩ := I.fr
  show wpAny (model X.prog X.w) X.A (richCompare .Eq (.ref a) (.ref b)) _ _ s
  refine PySem.W.cmp_K (op := .Eq) (tb := .ref C) hr.units0 hF I.ok.mod.kin J J'.type (by simp [PySem.W.notFirst]) hm.at_ hm.fn (wpAny_call ?_)
  have hl := F.len _ _ _ _ hsp
  refine codeAny_mono (F.run X.A X.stack s H ⟨[.ref a, .ref b], []⟩ [.ref a, .ref b] [.ref a, .ref b] _ E0 hr I.env0 (by simpa using b0 s [.ref a, .ref b] I.kIn rfl) (.cons rfl (.cons rfl .nil)) hsp) fun r s' hq => ?_
  cases r with
  | error e => exact hq.elim
  | ok fl =>
    cases fl with
    | ret w =>
      obtain ⟨z, H', I', rz, r, ez, q⟩ := I.after hq
      subst ez
      cases rz
      exact ⟨.bl r, H', I', rfl, q⟩
    | next => exact False.elim hq
    | brk => exact False.elim hq
    | cont => exact False.elim hq
end
/-! x != y by object's own !=, which asks the class's == -/
section
variable {prog : Program} {w : World} {A : Around} {E : Value → Shared → Prop} {s : Shared} {K : PySem.W.Frag} {x y C f : Addr} {ox oy : Obj} {od od' : Option Obj}
open PySem.W in
theorem ne_body {Q : Fin → Shared → Prop} (hu : A.units < cLine) (X : K.In s.heap) (I : InstAt s.heap x ox C od) (he : findIn K (.ref C) "__eq__" = some (some (.ref f))) (hf : isFn K (.ref f) = true)
    (h : wpAny (model prog w) A (call (.ref f) [.ref x, .ref y]) (fun v s' => ∃ b, v = .bool b ∧ Q (.done (.ret (.bool (!b)))) s') E s) : wpAny (model prog w) A (Builtin.«object.__ne__» ⟨[.ref x, .ref y], []⟩) Q E s := by
  obtain ⟨hp, g, d, t, os⟩ := s
  unfold Builtin.«object.__ne__»
  repeat (first
    | with_reducible refine wpAny_cRoomFor hu ?_
    | (refine wpAny_bind (m := callSpecialIfBound? (.ref x) (Str.ofString "__eq__") [.ref y]) (ifBound_K X I he hf (wpAny_mono h (fun r s' hr => ?_) fun _ _ e => e)); obtain ⟨b, rfl, hq⟩ := hr)
    | (refine wpAny_bind (m := truthy (.bool _)) (wpAny_truthy_bool ?_))
    | exact hq | exact wpAny_pure hq
    | wp_step)
open PySem.W in
theorem bound_B {B id : String} {nm : Str} {M : Model} {args : List Value} {Q : Option Value → Shared → Prop} (S : Slot B nm id) (X : K.In s.heap) (I : InstAt s.heap x ox C od) (hn : findIn K (.ref C) nm = some (some (.builtin id)))
    (h : wpAny M A (call (.builtin id) (.ref x :: args)) (fun v s' => Q (some v) s') E s) : wpAny M A (callSpecialIfBound? (.ref x) nm args) Q E s := by
  have go : wpAny M A (call (.builtin id) ([.ref x] ++ args) >>= fun v => pure (some v)) Q E s := wpAny_bind (wpAny_mono h (fun v s' q => wpAny_pure q) fun _ _ q => q)
  simp only [bindSpecialIfBound?, callSpecialIfBound?]
  apply wpAny_holding
  refine wpAny_bind (wpAny_bind (wpAny_bind (I.type.here ((looks_findIn X hn).here ?_))))
  simp only [S.bind]
  apply wpAny_bind
  refine wpAny_askSetting (wpAny_ite ?_)
  split
  · refine wpAny_bind (wpAny_pure (wpAny_pure ?_))
    exact go
  · refine wpAny_tryCatch (wpAny_bind (wpAny_pure (wpAny_pure ?_)))
    exact go
open PySem.W in
theorem ne_try {Q : Option Value → Shared → Prop} (hu : A.units + 1 < cLine) (X : K.In s.heap) (I : InstAt s.heap x ox C od) (hn : findIn K (.ref C) "__ne__" = some (some (.builtin "object.__ne__"))) (hm : mroIn K C (.type "object") = some true)
    (he : findIn K (.ref C) "__eq__" = some (some (.ref f))) (hf : isFn K (.ref f) = true)
    (h : wpAny (model prog w) A.in1 (call (.ref f) [.ref x, .ref y]) (fun v s' => ∃ b, v = .bool b ∧ Q (some (.bool (!b))) s') E s) : wpAny (model prog w) A (tryCompare (.ref x) "__ne__" (.ref y)) Q E s := by
  have S := F.cmp_object.ne
  have sub : Looks (model prog w) s.heap (isInstance (.ref x) (.type "object")) true := I.type.andThen (looks_mroIn X hm)
  unfold tryCompare
  refine wpAny_bind (bound_B S X I hn ?_)
  refine wpAny_call (codeAny_call_builtin S.plain F.cmpEntry_ne (check_slot F.cmpKind_ne F.cmpSplit_ne sub (F.cmpArgs_ne _ _) ?_))
  refine ne_body (A := A.in1) hu X I he hf (wpAny_mono h (fun v s' hv => ?_) fun _ _ e => e)
  obtain ⟨b, e, q⟩ := hv
  exact ⟨b, e, wpAny_pure q⟩
open PySem.W in
theorem ne_K {h₀ : Heap} {L : Addr} {m : Str → Option Value} {Q : Value → Shared → Prop} (hu : A.units + 1 < cLine) (X : K.In s.heap) (I : InstAt s.heap x ox C od) (J : InstAt s.heap y oy C od') (hn : findIn K (.ref C) "__ne__" = some (some (.builtin "object.__ne__"))) (hm : mroIn K C (.type "object") = some true)
    (he : findIn K (.ref C) "__eq__" = some (some (.ref f))) (hf : isFn K (.ref f) = true)
    (h : wpAny (model prog w) A.in1 (call (.ref f) [.ref x, .ref y]) (fun v s' => ∃ b, v = .bool b ∧ Q (.bool (!b)) s') E s) : wpAny (model prog w) A (richCompare .NotEq (.ref x) (.ref y)) Q E s := by
  unfold richCompare
  simp only [oneThing_ref]
  refine wpAny_holding (wpAny_bind (wpAny_cRoomFor (Nat.lt_of_succ_lt hu) (wpAny_bind (I.type.here (wpAny_bind (J.type.here ?_))))))
  rw [show (Value.ref C != Value.ref C) = false by simp]
  have go := ne_try (Q := fun r s' => ∃ b, r = some (.bool b) ∧ Q (.bool b) s') hu X I hn hm he hf (wpAny_mono h (fun v s' hv => by
    obtain ⟨b, e, q⟩ := hv
    exact ⟨b, e, _, rfl, q⟩) fun _ _ e => e)
  simp only [Bool.false_eq_true, if_false]
  refine wpAny_bind (wpAny_pure ?_)
  simp only [Bool.false_eq_true, if_false]
  refine wpAny_bind (wpAny_mono go (fun r s' z => ?_) fun _ _ e => e)
  obtain ⟨b, rfl, q⟩ := z
  exact wpAny_pure q
end
section
variable {X : Cx} {C : Addr} {k : Nat}
theorem op_neP {sp : Sp} {st0 : Stmt} {q0 : Str} (h : Mth X.prog X.w X.K X.mg X.base C "__eq__" ["self", "other"] k sp st0 q0) (hn : PySem.W.findIn X.K (.ref C) "__ne__" = some (some (.builtin "object.__ne__"))) (hm : PySem.W.mroIn X.K C (.type "object") = some true) (hr0 : Room (k + 1) X.A) : OpR X (compareOp .NotEq) (rNeP C sp) := by
  intro pins s σ H x y v u Q I rx ry hq
  obtain ⟨f, fd, F, hm1, b0, cl, _⟩ := h.ex
  obtain ⟨a, dx, fs, b, dy, gs, rfl, rfl, ha, hb, hsp⟩ := hq
  cases rx
  cases ry
  have hr : Room k X.A.in1 := hr0.in1
  obtain ⟨mA, J, _⟩ := ins_get I.hok ha
  obtain ⟨mB, J', _⟩ := ins_get I.hok hb
  obtain ⟨od, J, _⟩ := J.look
  obtain ⟨od', J', _⟩ := J'.look
  show wpAny (model X.prog X.w) X.A (richCompare .NotEq (.ref a) (.ref b)) _ _ s
  refine ne_K (h₀ := X.base) (L := 0) (m := fun _ => none) (by have := hr0.units; omega) I.kIn J J' hn hm hm1.at_ hm1.fn (wpAny_call ?_)
  refine codeAny_mono (F.run X.A.in1 X.stack s H ⟨[.ref a, .ref b], []⟩ [.ref a, .ref b] [.ref a, .ref b] _ E0 hr I.env0.in1 (by simpa using b0 s [.ref a, .ref b] I.kIn rfl) (.cons rfl (.cons rfl .nil)) hsp) fun r s' hq => ?_
  cases r with
  | error e => exact hq.elim
  | ok fl =>
    cases fl with
    | ret w =>
      obtain ⟨z, H', I', rz, r, ez, q⟩ := I.after hq
      subst ez
      cases rz
      exact ⟨r, rfl, .bl (!r), H', I', rfl, q⟩
    | next => exact False.elim hq
    | brk => exact False.elim hq
    | cont => exact False.elim hq
end
set_option Elab.async false
set_option linter.all false
set_option maxRecDepth 100000
set_option maxHeartbeats 4000000
/-! ## the jar of draws: three numbers at j, good for n draws more -/
structure JarB (a b c : Int) (n : Nat) : Prop where
  a0 : 0 ≤ a
  b0 : 0 ≤ b
  b1 : b < 2 ^ 200
  c0 : 0 ≤ c
  c1 : c + n ≤ 1000000
abbrev JarO (a b c : Int) : HO := .lst [.int a, .int b, .int c]
def JarAt (H : Hp) (j : Addr) (n : Nat) : Prop := ∃ a b c, H j = some (JarO a b c) ∧ JarB a b c n
theorem JarAt.le {H : Hp} {j : Addr} {n m : Nat} (h : JarAt H j n) (l : m ≤ n) : JarAt H j m := by
  obtain ⟨a, b, c, e, q⟩ := h
  exact ⟨a, b, c, e, q.a0, q.b0, q.b1, q.c0, by have := q.c1; omega⟩
theorem JarAt.fr {H H' : Hp} {j : Addr} {n : Nat} (h : JarAt H j n) (f : Fr [] H H') : JarAt H' j n := by
  obtain ⟨a, b, c, e, q⟩ := h
  exact ⟨a, b, c, f _ _ (fun z => nomatch z) e, q⟩
theorem JarAt.ne {H : Hp} {j p : Addr} {n : Nat} (h : JarAt H j n) (hp : H p = none) : p ≠ j := fun e => by
  obtain ⟨a, b, c, e1, _⟩ := h
  rw [e, e1] at hp
  cases hp
theorem JarAt.some {H : Hp} {j : Addr} {n : Nat} (h : JarAt H j n) : ∃ o, H j = some o := by
  obtain ⟨a, b, c, e, _⟩ := h
  exact ⟨_, e⟩
/-- the known heap beside the jar -/
structure ZJ (H0 H : Hp) (j : Addr) (n : Nat) (E : List En) : Prop where
  jar : JarAt H j n
  nd : (E.map (·.2.1)).Nodup
  at_ : ∀ q ∈ E, H q.2.1 = some q.2.2
  ne : ∀ q ∈ E, q.2.1 ≠ j
  two : ∀ q ∈ E, q.1 = 2
  fresh : ∀ q ∈ E, H0 q.2.1 = none
  fr : Fr [j] H0 H
section
variable {H0 H H' : Hp} {j : Addr} {n : Nat} {E : List En}
theorem ZJ.start (h : JarAt H j n) : ZJ H H j n [] := ⟨h, List.nodup_nil, (fun _ m => nomatch m), (fun _ m => nomatch m), (fun _ m => nomatch m), (fun _ m => nomatch m), Fr.refl H⟩
theorem ZJ.get (z : ZJ H0 H j n E) {t : Nat} {a : Addr} {o : HO} (h : (t, a, o) ∈ E) : H a = some o := z.at_ _ h
theorem ZJ.keep (z : ZJ H0 H j n E) {a : Addr} {o : HO} (h : H0 a = some o) (n : a ≠ j) : H a = some o := z.fr _ _ (fun m => by
  rcases List.mem_cons.mp m with e | m
  · exact n e
  · cases m) h
theorem ZJ.none (z : ZJ H0 H j n E) {p : Addr} (hp : H p = none) : H0 p = none := by
  cases e : H0 p with
  | none => rfl
  | some o =>
    rw [z.keep e (z.jar.ne hp)] at hp
    cases hp
theorem ZJ.alloc (z : ZJ H0 H j n E) {p : Addr} (o : HO) (hp : H p = Option.none) : ZJ H0 (upd H p o) j n ((2, p, o) :: E) := by
  have hn : ∀ q ∈ E, q.2.1 ≠ p := fun q hq => ne_of_none (z.at_ q hq) hp
  have hj := z.jar.ne hp
  refine ⟨z.jar.fr ((Fr.refl H).new hp), ?_, fun q hq => ?_, fun q hq => ?_, fun q hq => ?_, fun q hq => ?_, z.fr.new hp⟩
  · rw [List.map_cons, List.nodup_cons]
    refine ⟨fun m => ?_, z.nd⟩
    obtain ⟨q, hq, e⟩ := List.mem_map.mp m
    exact hn q hq e
  all_goals rcases List.mem_cons.mp hq with rfl | hq
  · exact upd_same
  · rw [upd_ne (hn q hq)]
    exact z.at_ q hq
  · exact hj
  · exact z.ne q hq
  · rfl
  · exact z.two q hq
  · exact z.none hp
  · exact z.fresh q hq
theorem ZJ.other (z : ZJ H0 H j n E) {i k : Nat} {q r : En} (hi : E[i]? = some q) (hk : E[k]? = some r) (h : k ≠ i) : r.2.1 ≠ q.2.1 := fun e => by
  have h1 : (E.map (·.2.1))[i]? = some q.2.1 := by rw [List.getElem?_map, hi] <;> rfl
  have h2 : (E.map (·.2.1))[k]? = some r.2.1 := by rw [List.getElem?_map, hk] <;> rfl
  rw [e] at h2
  obtain ⟨g1, e1⟩ := List.getElem?_eq_some_iff.mp h1
  obtain ⟨g2, e2⟩ := List.getElem?_eq_some_iff.mp h2
  exact h ((List.getElem_inj z.nd).mp (e2.trans e1.symm))
/-- a store to the i-th entry -/
theorem ZJ.set (z : ZJ H0 H j n E) (i : Nat) {t : Nat} {a : Addr} {o : HO} (o' : HO) (hi : E[i]? = some (t, a, o)) : ZJ H0 (upd H a o') j n (E.set i (t, a, o')) := by
  have hin := List.mem_of_getElem? hi
  have haj := z.ne _ hin
  refine ⟨?_, ?_, fun q hq => ?_, fun q hq => ?_, fun q hq => ?_, fun q hq => ?_, ?_⟩
  · obtain ⟨x, y, c, e, b⟩ := z.jar
    exact ⟨x, y, c, by rw [upd_ne haj.symm]; exact e, b⟩
  · rw [map_set_same hi]
    exact z.nd
  · rcases mem_set_of hq with rfl | ⟨k, hk, e⟩
    · exact upd_same
    · rw [upd_ne (z.other hi e hk)]
      exact z.at_ q (List.mem_of_getElem? e)
  · rcases mem_set_of hq with rfl | ⟨k, hk, e⟩
    · exact haj
    · exact z.ne q (List.mem_of_getElem? e)
  · rcases mem_set_of hq with rfl | ⟨k, hk, e⟩
    · exact z.two (t, a, o) hin
    · exact z.two q (List.mem_of_getElem? e)
  · rcases mem_set_of hq with rfl | ⟨k, hk, e⟩
    · exact z.fresh (t, a, o) hin
    · exact z.fresh q (List.mem_of_getElem? e)
  · exact z.fr.mut (z.fresh _ hin)
/-- behind draws -/
theorem ZJ.dips (z : ZJ H0 H j n E) {m : Nat} (f : Fr [j] H H') (h : JarAt H' j m) : ZJ H0 H' j m E :=
  ⟨h, z.nd, fun q hq => f _ _ (fun s => by
    rcases List.mem_cons.mp s with e | s
    · exact z.ne q hq e
    · cases s) (z.at_ q hq), z.ne, z.two, z.fresh, z.fr.trans f⟩
/-- behind a call that draws and makes N -/
theorem ZJ.call (z : ZJ H0 H j n E) {m : Nat} {N : List (Addr × HO)} (f : Fr [j] H H') (h : JarAt H' j m) (w : New H H' N) : ZJ H0 H' j m (N.map (fun q => ((2, q.1, q.2) : En)) ++ E) := by
  have y := z.dips f h
  refine ⟨h, ?_, fun q hq => ?_, fun q hq => ?_, fun q hq => ?_, fun q hq => ?_, y.fr⟩
  · rw [List.map_append, List.nodup_append]
    refine ⟨?_, z.nd, fun x hx r hr e => ?_⟩
    · rw [List.map_map]
      exact w.1.1
    · obtain ⟨q, hq, rfl⟩ := List.mem_map.mp hx
      obtain ⟨q', hq', rfl⟩ := List.mem_map.mp hq
      obtain ⟨u, hu, rfl⟩ := List.mem_map.mp hr
      exact ne_of_none (z.at_ u hu) (w.2 q' hq') e.symm
  all_goals rcases List.mem_append.mp hq with hq | hq
  · obtain ⟨q', hq', rfl⟩ := List.mem_map.mp hq
    exact w.1.2 q' hq'
  · exact y.at_ q hq
  · obtain ⟨q', hq', rfl⟩ := List.mem_map.mp hq
    exact z.jar.ne (w.2 q' hq')
  · exact z.ne q hq
  · obtain ⟨q', hq', rfl⟩ := List.mem_map.mp hq
    rfl
  · exact z.two q hq
  · obtain ⟨q', hq', rfl⟩ := List.mem_map.mp hq
    exact z.none (w.2 q' hq')
  · exact z.fresh q hq
theorem ZJ.call0 (z : ZJ H0 H j n E) {N : List (Addr × HO)} (f : Fr [] H H') (w : New H H' N) : ZJ H0 H' j n (N.map (fun q => ((2, q.1, q.2) : En)) ++ E) := z.call f.up0 (z.jar.fr f) w
theorem new1 {D : Addr} {o : HO} (h0 : H D = Option.none) (h1 : H' D = some o) : New H H' [(D, o)] := by
  refine ⟨⟨List.nodup_cons.mpr ⟨(fun m => nomatch m), List.nodup_nil⟩, fun q hq => ?_⟩, fun q hq => ?_⟩
  all_goals
    rcases List.mem_cons.mp hq with rfl | hq
    · assumption
    · cases hq
theorem ZJ.comp (z : ZJ H0 H j n E) {D : Addr} {o : HO} (f : Fr [] H H') (h0 : H D = Option.none) (h1 : H' D = some o) : ZJ H0 H' j n ((2, D, o) :: E) := z.call0 (N := [(D, o)]) f (new1 h0 h1)
theorem ZJ.same (z : ZJ H0 H j n E) (f : Fr [] H H') : ZJ H0 H' j n E := z.dips f.up0 (z.jar.fr f)
theorem ZJ.sub (z : ZJ H0 H j n E) {E' : List En} (s : E'.Sublist E) : ZJ H0 H j n E' :=
  ⟨z.jar, (s.map _).nodup z.nd, fun q hq => z.at_ q (s.subset hq), fun q hq => z.ne q (s.subset hq), fun q hq => z.two q (s.subset hq), fun q hq => z.fresh q (s.subset hq), z.fr⟩
theorem ZJ.perm (z : ZJ H0 H j n E) {E' : List En} (s : E'.Perm E) : ZJ H0 H j n E' :=
  ⟨z.jar, (s.map _).nodup_iff.mpr z.nd, fun q hq => z.at_ q (s.subset hq), fun q hq => z.ne q (s.subset hq), fun q hq => z.two q (s.subset hq), fun q hq => z.fresh q (s.subset hq), z.fr⟩
theorem ZJ.le (z : ZJ H0 H j n E) {m : Nat} (l : m ≤ n) : ZJ H0 H j m E := ⟨z.jar.le l, z.nd, z.at_, z.ne, z.two, z.fresh, z.fr⟩
theorem ZJ.made (z : ZJ H0 H j n E) {N : List (Addr × HO)} (s : (N.map (fun q => ((2, q.1, q.2) : En))).Sublist E) : New H0 H N := by
  refine ⟨⟨?_, fun q hq => z.at_ (2, q.1, q.2) (s.subset (List.mem_map.mpr ⟨q, hq, rfl⟩))⟩, fun q hq => z.fresh (2, q.1, q.2) (s.subset (List.mem_map.mpr ⟨q, hq, rfl⟩))⟩
  have := (s.map (·.2.1)).nodup z.nd
  rw [List.map_map] at this
  exact this
theorem pick_mem {E : List En} : ∀ (is : List Nat) (N : List (Addr × HO)), is.map (fun i => E[i]?) = N.map (fun q => some ((2, q.1, q.2) : En)) → ∀ q ∈ N, ∃ i ∈ is, E[i]? = some (2, q.1, q.2)
  | [], [], _, q, hq => nomatch hq
  | [], _ :: _, e, _, _ => by cases e
  | _ :: _, [], e, _, _ => by cases e
  | i :: is, p :: N, e, q, hq => by
    rw [List.map_cons, List.map_cons, List.cons.injEq] at e
    rcases List.mem_cons.mp hq with rfl | hq
    · exact ⟨i, List.mem_cons_self, e.1⟩
    · obtain ⟨k, hk, h⟩ := pick_mem is N e.2 q hq
      exact ⟨k, List.mem_cons_of_mem _ hk, h⟩
theorem pick_nd {H0 H : Hp} {j : Addr} {n : Nat} {E : List En} (z : ZJ H0 H j n E) : ∀ (is : List Nat) (N : List (Addr × HO)), is.Nodup → is.map (fun i => E[i]?) = N.map (fun q => some ((2, q.1, q.2) : En)) → (N.map (·.1)).Nodup
  | [], [], _, _ => List.nodup_nil
  | [], _ :: _, _, e => by cases e
  | _ :: _, [], _, e => by cases e
  | i :: is, p :: N, nd, e => by
    rw [List.map_cons, List.map_cons, List.cons.injEq] at e
    rw [List.nodup_cons] at nd
    rw [List.map_cons, List.nodup_cons]
    refine ⟨fun m => ?_, pick_nd z is N nd.2 e.2⟩
    obtain ⟨q, hq, e1⟩ := List.mem_map.mp m
    obtain ⟨k, hk, h⟩ := pick_mem is N e.2 q hq
    exact z.other e.1 h (fun x => nd.1 (x ▸ hk)) e1
/-- of what is known the entries at these places -/
theorem ZJ.pick {H0 H : Hp} {j : Addr} {n : Nat} {E : List En} (z : ZJ H0 H j n E) {N : List (Addr × HO)} (is : List Nat) (e : is.map (fun i => E[i]?) = N.map (fun q => some ((2, q.1, q.2) : En))) (nd : is.Nodup := by decide) : New H0 H N :=
  ⟨⟨pick_nd z is N nd e, fun q hq => by
    obtain ⟨i, _, h⟩ := pick_mem is N e q hq
    exact z.at_ _ (List.mem_of_getElem? h)⟩, fun q hq => by
    obtain ⟨i, _, h⟩ := pick_mem is N e q hq
    exact z.fresh _ (List.mem_of_getElem? h)⟩
end
/-- [draw for _ in range(n)], c draws an item -/
theorem lc_draw {J : It} (p : Int → Prop) {n c m : Nat} {f : Nat → V} {g : TG} {te : TE} {vs : List Nat} {σ : L2.St} {Q : VK} {H0 H1 : Hp} {j : Addr} {E : List En} (w : Walk J n (fun _ => True) (YFn f)) (hn : n ≤ 10000) (z : ZJ H0 H1 j (m + c * n) E)
    (he : ∀ (i : Nat) (H' : Hp) (D : Addr) (ns : List Int) (R : VK), i < n → ns.length = i → ZJ H0 H' j (m + c * (n - i)) ((2, D, .lst (ns.map V.int)) :: E) → (∀ (x : Int) (G : Hp), p x → ZJ H0 G j (m + c * (n - (i + 1))) ((2, D, .lst (ns.map V.int)) :: E) → R (.int x) G) →
      g (f i) (wipe σ vs) H' fun σ2 H2 => wipe σ2 vs = wipe σ vs ∧ te σ2 H2 R)
    (hd : ∀ (D : Addr) (ns : List Int) (H' : Hp), ns.length = n → (∀ x ∈ ns, p x) → ZJ H0 H' j m ((2, D, .lst (ns.map V.int)) :: E) → Q (.ref D) H') : LcJ g tYes te vs σ Q J H1 := by
  intro D hD
  refine lc_it w (fun i H' => i ≤ n ∧ ∃ ns : List Int, ns.length = i ∧ (∀ x ∈ ns, p x) ∧ ZJ H0 H' j (m + c * (n - i)) ((2, D, .lst (ns.map V.int)) :: E)) ⟨Nat.zero_le _, [], rfl, (fun _ m => nomatch m), z.alloc (.lst []) hD⟩ (fun i H' _ _ => trivial) (fun i x H' H'' hi p y => ?_) (fun H' p => ?_)
  · obtain ⟨p1, ns, p2, pp, p3⟩ := p
    obtain ⟨rfl, rfl⟩ := y
    refine he i H'' D ns (fun y H4 => ∃ acc, H4 D = some (.lst acc) ∧ acc.length < sizeLine ∧ (i + 1 ≤ n ∧ ∃ ns : List Int, ns.length = i + 1 ∧ (∀ x ∈ ns, p x) ∧ ZJ H0 (upd H4 D (.lst (acc ++ [y]))) j (m + c * (n - (i + 1))) ((2, D, .lst (ns.map V.int)) :: E))) hi p2 p3 fun x G px q => ?_
    refine ⟨ns.map V.int, q.get (.head _), ?_, hi, ns ++ [x], by rw [List.length_append, p2] <;> rfl, (fun y hy => (List.mem_append.mp hy).elim (pp y) fun h => (List.mem_singleton.mp h) ▸ px), ?_⟩
    · rw [List.length_map, p2]
      exact Nat.lt_of_lt_of_le (show i < 100001 by omega) (by decide)
    · rw [List.map_append]
      exact q.set 0 _ rfl
  · obtain ⟨p1, ns, p2, pp, p3⟩ := p
    exact hd D ns H' p2 pp (by
      rw [Nat.sub_self] at p3
      exact p3)
theorem min_ex : ∀ {ns : List Int}, 0 < ns.length → ∃ m, m ∈ ns ∧ ∀ y, y ∈ ns → m ≤ y
  | [], h => absurd h (by decide)
  | [a], _ => ⟨a, List.mem_cons_self, fun y hy => by rcases List.mem_cons.mp hy with rfl | hy; exact Int.le_refl _; cases hy⟩
  | a :: b :: r, _ => by
    obtain ⟨m, h1, h2⟩ := min_ex (ns := b :: r) (by simp)
    rcases Int.le_total a m with h | h
    · exact ⟨a, List.mem_cons_self, fun y hy => by
        rcases List.mem_cons.mp hy with rfl | hy
        · exact Int.le_refl _
        · exact Int.le_trans h (h2 y hy)⟩
    · exact ⟨m, List.mem_cons_of_mem _ h1, fun y hy => by
        rcases List.mem_cons.mp hy with rfl | hy
        · exact h
        · exact h2 y hy⟩
theorem max_ex : ∀ {ns : List Int}, 0 < ns.length → ∃ m, m ∈ ns ∧ ∀ y, y ∈ ns → y ≤ m
  | [], h => absurd h (by decide)
  | [a], _ => ⟨a, List.mem_cons_self, fun y hy => by rcases List.mem_cons.mp hy with rfl | hy; exact Int.le_refl _; cases hy⟩
  | a :: b :: r, _ => by
    obtain ⟨m, h1, h2⟩ := max_ex (ns := b :: r) (by simp)
    rcases Int.le_total m a with h | h
    · exact ⟨a, List.mem_cons_self, fun y hy => by
        rcases List.mem_cons.mp hy with rfl | hy
        · exact Int.le_refl _
        · exact Int.le_trans (h2 y hy) h⟩
    · exact ⟨m, List.mem_cons_of_mem _ h1, fun y hy => by
        rcases List.mem_cons.mp hy with rfl | hy
        · exact h
        · exact h2 y hy⟩
theorem r_minM {K : PySem.W.Frag} {H : Hp} {Q : VK} {a : Addr} {ns : List Int} {m : Int} (h : SqL K H a (ns.map V.int)) (h1 : m ∈ ns) (h2 : ∀ y, y ∈ ns → m ≤ y) (q : Q (.int m) H) : rMin K [.ref a] H Q :=
  ⟨a, ns, rfl, h, List.length_pos_of_mem h1, fun m' g1 g2 => by rw [Int.le_antisymm (g2 _ h1) (h2 _ g1)]; exact q⟩
theorem r_maxM {K : PySem.W.Frag} {H : Hp} {Q : VK} {a : Addr} {ns : List Int} {m : Int} (h : SqL K H a (ns.map V.int)) (h1 : m ∈ ns) (h2 : ∀ y, y ∈ ns → y ≤ m) (q : Q (.int m) H) : rMax K [.ref a] H Q :=
  ⟨a, ns, rfl, h, List.length_pos_of_mem h1, fun m' g1 g2 => by rw [Int.le_antisymm (h2 _ g1) (g2 _ h1)]; exact q⟩
/-- [c for _ in a] -/
theorem lc_const {K : PySem.W.Frag} {a : Addr} {te : TE} {vs : List Nat} {σ : L2.St} {H1 : Hp} {Q : VK} {k : Nat} {ns : List Int} (c : Int) (ha : SqL K H1 a (ns.map V.int)) (hn : ns.length ≤ 100000) (hw : ∀ x, wipe ((wipe σ vs).set k (some x)) vs = wipe σ vs)
    (he : ∀ x H' (R : VK), Fr [] H1 H' → (∀ H4, Fr [] H' H4 → R (.int c) H4) → te ((wipe σ vs).set k (some (.int x))) H' R)
    (hd : ∀ D H', H1 D = none → Fr [] H1 H' → H' D = some (.lst ((ns.map fun _ => c).map V.int)) → Q (.ref D) H') : LcJ (gName k) tYes te vs σ Q (Itl K a) H1 :=
  lc_map (fun _ => c) ha hn hw (fun i H' R _ e kR => he _ H' R e kR) hd
theorem nth_const {ns : List Int} {c : Int} {i : Nat} (h : i < ns.length) : nth (ns.map fun _ => c) i = c := by
  unfold nth
  rw [List.getD_eq_getElem?_getD, List.getElem?_map, List.getElem?_eq_getElem h]
  rfl
theorem nth_map {ns : List Int} {g : Int → Int} {i : Nat} (h : i < ns.length) : nth (ns.map g) i = g (nth ns i) := by
  unfold nth
  rw [List.getD_eq_getElem?_getD, List.getD_eq_getElem?_getD, List.getElem?_map, List.getElem?_eq_getElem h]
  rfl
theorem nth_mem {ns : List Int} {i : Nat} (h : i < ns.length) : nth ns i ∈ ns := by
  rw [← getElem_nth h]
  exact List.getElem_mem h
set_option Elab.async false
set_option linter.all false
set_option maxRecDepth 100000
set_option maxHeartbeats 2000000
/-! ## enumerate(list, start=c) -/
def ItS (K : PySem.W.Frag) (c : Int) (a : Addr) : It where
  go := (Ite K a).go
  stop := (Ite K a).stop
  yld := fun i H v H' => ∃ (T : Addr) (x : V), v = .ref T ∧ H T = none ∧
    H' = upd H T (.tup [.int (c + (i : Int)), x]) ∧
    ∀ xs, SqL K H a xs → xs[i]? = some x
theorem turn_enumS {P : Program} {w : World} {K : PySem.W.Frag} {elts : List Expr} {kk : Nat} {tpos : Pos} (c : Int) (a e it : Addr) :
    Turn P w K (.Tuple elts kk tpos) (ItS K c a) [e, it] e fun i h =>
      e ≠ it ∧ a ≠ it ∧ h.IsListIter it a i ∧ ∃ u, IsEnum h e it (c + (i : Int)) u where
  mem := List.mem_cons_self ..
  obj := fun i h ⟨_, _, ⟨o, ho, _, hd⟩, u, he⟩ b hb => by
    rcases List.mem_cons.mp hb with rfl | hb
    · exact ⟨_, he, fun v q => nomatch q⟩
    · obtain rfl := List.mem_singleton.mp hb
      exact ⟨o, ho, fun v q => by
        rw [hd] at q
        cases q⟩
  keep := fun i h h' ⟨n1, n2, hi, u, he⟩ k =>
    ⟨n1, n2, hi.at fun o q => k it (by simp) o q, u, k e (by simp) _ he⟩
  item := by
    intro X hP hw hK hc i pins s σ H E I hf st hg
    subst hP hw hK
    obtain ⟨n1, n2, hi, u0, he⟩ := st
    obtain ⟨xs, x, hq, hx⟩ := hg
    obtain ⟨its, rv, p, hz⟩ := I.list hq
    obtain ⟨u, hu, ru⟩ := rv.get hx
    have lt : i < its.toArray.size := by
      have := (List.getElem?_eq_some_iff.mp hu).1
      simpa using this
    have D := Draws.list (prog := X.prog) (w := X.w) (A := X.A.in1) (I.ok.hd hc) it a n2 its.toArray
    have hel : e < s.heap.objs.size := Heap.lt_size he
    have hil : it < s.heap.objs.size := by
      obtain ⟨_, q, _⟩ := hi
      exact Heap.lt_size q
    have nea : e ≠ a := fun q => by
      obtain ⟨o, ho, hc, _⟩ := p.isList
      rw [← q, he] at ho
      obtain rfl := Option.some.inj ho
      exact absurd (show Value.type "enumerate" = Value.type "list" from hc) (by decide)
    refine wpAny_pyNext_enum_itemC D he ⟨hi, p.isList⟩ lt n1 (by simp [n1, nea]) fun y h' tk hy ho hs hT hsz hk => ?_
    obtain rfl : u = y := by
      have hy : its.toArray[i]? = some y := hy
      rw [List.getElem?_toArray, hu] at hy
      exact Option.some.inj hy
    refine ⟨_, rfl, wpAny_letOwnedTupleGo_enum (s := { s with heap := h', toks := tk + 1 }) ho fun h'' he' sb => ?_⟩
    have hT2 : h''.get? s.heap.objs.size = some { cls := .type "tuple", data := .seq #[.int (c + (i : Int)) tk, u] } := (sb.2 _ (Nat.ne_of_gt hel)).trans hT
    have new : ObjOk X.prog X.w (upd H s.heap.objs.size (.tup [.int (c + (i : Int)), x])) h'' s.heap.objs.size (.tup [.int (c + (i : Int)), x]) :=
      ⟨by show 2 ≤ sizeLine; decide, [.int (c + (i : Int)) tk, u], .cons ⟨_, rfl⟩ (.cons ru .nil), ⟨_, hT2, rfl, _, rfl⟩⟩
    have same : ∀ b o, b ∉ [e, it] → s.heap.get? b = some o → h''.get? b = some o := fun b o hb q => by
      have b1 : b ≠ e := fun z => hb (by simp [z])
      have b2 : b ≠ it := fun z => hb (by simp [z])
      exact (sb.2 b b1).trans (hk b o b1 b2 q)
    have I1 : Inv X pins σ (upd H s.heap.objs.size (.tup [.int (c + (i : Int)), x])) { s with heap := h'', toks := tk + 1 } := I.turnedNew (ch := [e, it]) same hf (Nat.le_refl _) new
    refine ⟨.ref s.heap.objs.size, _, I1, rfl, ⟨_, x, rfl, I.hok.fresh (Nat.le_refl _), rfl, fun ys hy => ?_⟩, ⟨n1, n2, hs.1.at fun o q => (sb.2 it (Ne.symm n1)).trans q, u, ?_⟩, fun b hb => ?_⟩
    · rw [I.list_inj hy hq]
      exact hx
    · rw [show c + ((i + 1 : Nat) : Int) = c + (i : Int) + 1 by omega]
      exact he'
    · have hb' : b < s.heap.objs.size := by
        rcases List.mem_cons.mp hb with rfl | hb
        · exact hel
        · obtain rfl := List.mem_singleton.mp hb
          exact hil
      rw [upd_ne (Nat.ne_of_lt hb')]
      exact (hf b hb).1
  done := by
    intro X hP hw hK hc i pins s σ H E I hf st hg
    subst hP hw hK
    obtain ⟨n1, n2, hi, u0, he⟩ := st
    obtain ⟨xs, hq, hx⟩ := hg
    obtain ⟨its, rv, p, hz⟩ := I.list hq
    have f := hf it (by simp)
    have hl := rv.length
    have hi' : s.heap.IsListIter it a i := hi
    have ty : s.TypeIs (.ref e) "enumerate" := ⟨_, he, rfl⟩
    have none : its.toArray[i]? = none := Array.getElem?_eq_none (by simp; omega)
    unfold pyNext
    refine wpAny_bind (wpAny_attempt ?_)
    refine wpAny_callSpecial?_slot (name := Str.ofString "__next__") ty F.slot_enumerate_next ?_
    refine wpAny_call_entry F.slot_enumerate_next ty F.entry_enumerate_next ?_ (F.args_enumerate_next_1 _)
    refine wpAny_bind (m := field (.ref e) 2) (wpAny_field he rfl (x := .ref it) rfl ?_)
    refine wpAny_bind (wpAny_nextOf_list_end (I.ok.hd hc) hi' p.isList none fun h' y eb ⟨o, ho, hs⟩ => ?_)
    refine wpAny_bind (wpAny_isInstance (b := true) ⟨o, ho, hs⟩ isSubtype_stop (wpAny_pure ⟨rfl, ?_⟩))
    exact I.turned (t' := s.toks) (fun b o hb q => eb b o hb q) f.1 f.2.1 f.2.2.2.1 f.2.2.2.2.1 f.2.2.2.2.2
  self := fun A i s Q E ⟨_, _, _, u, he⟩ h => wpAny_pyIter_enum he h
/-- reading: enumerate(e, start=c) -/
def iEnumS (K : PySem.W.Frag) (c : Int) (ta : TE) : TI := fun σ H R => ta σ H fun v H1 => ∃ a xs, v = .ref a ∧ SqL K H1 a xs ∧ R (ItS K c a) H1
theorem pi_enumS {X : Cx} {e : Expr} {ta : TE} {p pos tpos cp kp : Pos} {elts : List Expr} {kk ck : Nat} {n : Int} (hg : Gl X "enumerate") (hm : X.mg "enumerate" = none) (he : PE X e ta) (hn : -1000 < n ∧ n < 1000 := by decide) (hs : starEach [e] X.env = [(false, eval e X.env)] := by rfl) :
    PI X (.Tuple elts kk tpos) (.Call (.Name "enumerate" p) [e] [⟨some "start", .Constant (.int n) ck cp, kp⟩] pos) (iEnumS X.K n ta) := by
  refine ⟨fun pins s σ H R I h => ?_⟩
  refine wpAny_Call_Name_kw (ld_blt I hg hm boot_enumerate ?_)
  refine PySem.W.callWith_of (P := fun _ => True) (by rw [hs] <;> rfl) (fun h _ => ⟨.machine, .inr (.inl rfl), .now⟩) ?_
  refine evalArgs_kw2 (by rfl) ?_ hs
  have ha : tCons ta tNil σ H fun vs H1 => ∃ a xs, vs = [.ref a] ∧ SqL X.K H1 a xs ∧ R (ItS X.K n a) H1 := by
    show ta σ H _
    have eq : (fun v H1 => ∃ a xs, [v] = [V.ref a] ∧ SqL X.K H1 a xs ∧ R (ItS X.K n a) H1) = fun v H1 => ∃ a xs, v = V.ref a ∧ SqL X.K H1 a xs ∧ R (ItS X.K n a) H1 := by
      funext v H1
      simp
    exact eq ▸ h
  refine thn ((pa_cons he pa_nil hs).run pos pins s σ H _ I ha) fun us s1 ⟨vs, H1, I1, r1, a, xs, ev, hq, q⟩ => ?_
  subst ev
  cases r1 with
  | cons r rr =>
    cases rr
    cases r
    obtain ⟨its, rv, p', hz⟩ := I1.list hq
    refine kwAll_cons (wpAny_Constant_int (kwAll_nil ⟨trivial, ?_⟩))
    show wpAny _ _ (call (.type "enumerate") [.ref a] [(Str.ofString "start", .int n s1.toks)]) _ _ _
    refine enum_begins_start (begins_list a its.toArray) p'.isList (by omega) (by omega) fun h' he ho hsz hk => wpAny_pyIter_enum he ?_
    have I2 : Inv X pins σ H1 { s1 with heap := h', toks := s1.toks + 1 } := I1.kept (t' := s1.toks + 1) hk
    have al : a < s1.heap.objs.size := by
      obtain ⟨o, q, _⟩ := p'.isList
      exact Heap.lt_size q
    refine ⟨s1.heap.objs.size + 1, [s1.heap.objs.size + 1, s1.heap.objs.size], _, _, H1, rfl, I2, turn_enumS n a (s1.heap.objs.size + 1) s1.heap.objs.size, ⟨Nat.succ_ne_self _, Nat.ne_of_lt al, ⟨_, ho, rfl, rfl⟩, .none, ?_⟩, fun b hb => ?_, q⟩
    · rw [show n + ((0 : Nat) : Int) = n by omega]
      exact he
    · have le : s1.heap.objs.size ≤ b := by
        rcases List.mem_cons.mp hb with rfl | hb
        · exact Nat.le_add_right ..
        · obtain rfl := List.mem_singleton.mp hb
          exact Nat.le_refl _
      exact I1.fpOk le (I1.hok.fresh le)
theorem walk_enumS {K : PySem.W.Frag} {a : Addr} {xs : List V} {c : Int} : Walk (ItS K c a) xs.length (fun H => SqL K H a xs) (YPair (fun i => some (.int (c + (i : Int)))) (fun i => xs[i]?)) := by
  refine ⟨fun i _ hi q => ⟨xs, xs[i], q, by simp [hi]⟩, fun _ q => ⟨xs, q, Nat.le_refl _⟩, fun i H v H' _ q ⟨T, x, e1, e2, e3, e4⟩ => ?_⟩
  exact ⟨T, .int (c + (i : Int)), x, e1, e2, e3, rfl, e4 xs q⟩
theorem r_ienumS {K : PySem.W.Frag} {c : Int} {te : TE} {σ : L2.St} {H : Hp} {R : It → Hp → Prop} (h : te σ H fun v H1 => ∃ a xs, v = .ref a ∧ SqL K H1 a xs ∧ R (ItS K c a) H1) : iEnumS K c te σ H R := h
theorem r_exenS {K : PySem.W.Frag} {H : Hp} {a : Addr} {xs : List V} {P : Addr → Prop} (h1 : SqL K H a xs) (h : P a) : ∃ c ys, V.ref a = .ref c ∧ SqL K H c ys ∧ P c := ⟨a, xs, rfl, h1, h⟩
theorem r_methK {σ : L2.St} {H : Hp} {Q : VK} {C : Addr} {m : Str} {n : Nat} {sp : Sp} {g : List V → List V → List V} {ta : TE} {tk : TA}
    (h : ta σ H fun x H1 => ∃ a dx fs, x = .ref a ∧ H1 a = some (.ins C dx fs) ∧ fs.lookup m = none ∧ tk σ H1 fun zs H2 => zs.length = n ∧ sp (g [x] zs) H2 Q E0) : tMethK C m n sp g ta tk σ H Q := h
/-- [g(c + i, x) for i, x in enumerate(a, start=c)], nothing that stood changed -/
theorem lc_enumS {K : PySem.W.Frag} {a : Addr} {te : TE} {vs : List Nat} {σ : L2.St} {H1 : Hp} {Q : VK} {k l : Nat} {c : Int} {ns : List Int} (g : Nat → Int → Int) (ha : SqL K H1 a (ns.map V.int)) (hn : ns.length ≤ 100000)
    (hw : ∀ x y, wipe (((wipe σ vs).set k (some x)).set l (some y)) vs = wipe σ vs)
    (he : ∀ i H' (R : VK), i < ns.length → Fr [] H1 H' → (∀ H4, Fr [] H' H4 → R (.int (g i (nth ns i))) H4) → te (((wipe σ vs).set k (some (.int (c + (i : Int))))).set l (some (.int (nth ns i)))) H' R)
    (hd : ∀ D H', H1 D = none → Fr [] H1 H' → H' D = some (.lst (((List.range ns.length).map fun i => g i (nth ns i)).map V.int)) → Q (.ref D) H') : LcJ (gTup K 2 (gCons (gName k) (gCons (gName l) gNil))) tYes te vs σ Q (ItS K c a) H1 := by
  have e1 : (ns.map V.int).length = ns.length := List.length_map _
  refine lc_pure (walk_enumS (xs := ns.map V.int)) (fun i => .int (g i (nth ns i))) (by omega) (fun H' e => e.sql ha (fun z => nomatch z)) (fun i H' x H'' y => by
    obtain ⟨T, x1, x2, _, h0, rfl, _⟩ := y
    exact (Fr.refl _).new h0) (fun i x H' H'' R hi e y kR => ?_) (fun D H' hD e hD' => ?_)
  · obtain ⟨T, x1, x2, rfl, h0, rfl, g1, g2⟩ := y
    obtain rfl := Option.some.inj g1
    obtain rfl := nth_at g2
    refine r_gtup (SqT.of upd_same) rfl (r_gcons (r_name (r_gcons (r_name (r_gnil ⟨hw _ _, ?_⟩)))))
    exact he i _ R (by omega) (e.trans ((Fr.refl _).new h0)) kR
  · rw [e1] at hD'
    exact hd D H' hD e (by rw [List.map_map]; exact hD')
/-! ## a comprehension within one -/
theorem relabel_free {env : Env} {x : Str} {names : List (Str × NameKind)} (h : names.lookup x = some .cell ∨ names.lookup x = some .free) :
    (names.map fun (n, k) => if (k == NameKind.free && env.scope.kind == .function && env.kindOf n == some .cell) then (n, NameKind.cell) else (n, k)).lookup x = some .cell ∨
    (names.map fun (n, k) => if (k == NameKind.free && env.scope.kind == .function && env.kindOf n == some .cell) then (n, NameKind.cell) else (n, k)).lookup x = some .free := by
  induction names with
  | nil =>
    rcases h with h | h
    · cases h
    · cases h
  | cons q r ih =>
    obtain ⟨n, k⟩ := q
    rw [List.map_cons]
    have hd : (if (k == NameKind.free && env.scope.kind == .function && env.kindOf n == some .cell) = true then (n, NameKind.cell) else (n, k)) = (n, if (k == NameKind.free && env.scope.kind == .function && env.kindOf n == some .cell) = true then NameKind.cell else k) := by
      split <;> rfl
    dsimp only
    rw [hd]
    by_cases e : (x == n) = true
    · rw [List.lookup_cons, e] at h ⊢
      dsimp only at h ⊢
      split
      · exact .inl rfl
      · exact h
    · have e := Bool.eq_false_iff.mpr e
      rw [List.lookup_cons, e] at h ⊢
      exact ih h
theorem blkRel {N : List Str} {sc scope : Scope} {env : Env} {own : List (Str × Nat)} (h : BlkOk N sc scope own) : BlkOk N (relabel sc env) scope own :=
  ⟨h.kind, h.uniq, h.ix, fun y hy e => relabel_free (h.free y hy e), h.own⟩
set_option Elab.async false
set_option linter.all false
set_option maxRecDepth 100000
set_option maxHeartbeats 4000000
/-! ## len(o) by an own __len__; max, min of three; a list taken apart -/
abbrev rLenP (C : Addr) (sp : Sp) : List V → Hp → VK → Prop := fun xs H Q => ∃ a dx fs, xs = [.ref a] ∧ H a = some (.ins C dx fs) ∧ sp [.ref a] H (fun v H' => ∃ n : Nat, v = .int n ∧ n < 1000000 ∧ Q (.int n) H') E0
section
variable {X : Cx} {C : Addr} {k : Nat}
theorem cr_lenP {sp : Sp} {st0 : Stmt} {q0 : Str} (h : Mth X.prog X.w X.K X.mg X.base C "__len__" ["self"] k sp st0 q0) (hr0 : Room (k + 1) X.A) : CallR X (.builtin "len") (rLenP C sp) := by
  intro pins s σ H xs us Q I r hq
  obtain ⟨f, fd, F, hm1, b0, cl, _⟩ := h.ex
  obtain ⟨a, dx, fs, rfl, ha, hsp⟩ := hq
  obtain ⟨u, rfl, rx⟩ := vals1 r
  cases rx
  have hr : Room k X.A.in1 := hr0.in1
  obtain ⟨mA, J, _⟩ := ins_get I.hok ha
  obtain ⟨od, J, _⟩ := J.look
  obtain ⟨m, hF⟩ := I.fr
  refine PySem.W.len_K hF I.ok.mod.kin J hm1.at_ hm1.fn (wpAny_call ?_)
  refine codeAny_mono (F.run X.A.in1 X.stack s H ⟨[.ref a], []⟩ [.ref a] [.ref a] _ E0 hr I.env0.in1 (by simpa using b0 s [.ref a] I.kIn rfl) (.cons rfl .nil) hsp) fun r s' hq => ?_
  cases r with
  | error e => exact hq.elim
  | ok fl =>
    cases fl with
    | ret w =>
      obtain ⟨z, H', I', rz, n, ez, hn, q⟩ := I.after hq
      subst ez
      obtain ⟨t, rfl⟩ := rz
      exact ⟨⟨by omega, by omega⟩, .int n, H', I'.tok _, ⟨_, rfl⟩, q⟩
    | next => exact False.elim hq
    | brk => exact False.elim hq
    | cont => exact False.elim hq
end
abbrev rMax3 : List V → Hp → VK → Prop := rNuC3 nuMax3
abbrev rMin3 : List V → Hp → VK → Prop := rNuC3 nuMin3
theorem r_max3 {H : Hp} {Q : VK} {i j k m : Int} (e : m = max (max i j) k) (q : Q (.int m) H) : rMax3 [.int i, .int j, .int k] H Q := by
  refine ⟨_, _, _, .int m, rfl, ?_, q⟩
  subst e
  have two : ∀ a b : Int, nuMax2 (.int a) (.int b) = some (.int (max a b)) := fun a b => by
    show some (if decide (a < b) = true then V.int b else V.int a) = _
    by_cases h : a < b
    · rw [if_pos (decide_eq_true h), Int.max_eq_right (Int.le_of_lt h)]
    · rw [if_neg (by simpa using h), Int.max_eq_left (by omega)]
  unfold nuMax3
  rw [two]
  exact two _ _
theorem r_min3 {H : Hp} {Q : VK} {i j k m : Int} (e : m = min (min i j) k) (q : Q (.int m) H) : rMin3 [.int i, .int j, .int k] H Q := by
  refine ⟨_, _, _, .int m, rfl, ?_, q⟩
  subst e
  have two : ∀ a b : Int, nuMin2 (.int a) (.int b) = some (.int (min a b)) := fun a b => by
    show some (if decide (b < a) = true then V.int b else V.int a) = _
    by_cases h : b < a
    · rw [if_pos (decide_eq_true h), Int.min_eq_right (Int.le_of_lt h)]
    · rw [if_neg (by simpa using h), Int.min_eq_left (by omega)]
  unfold nuMin3
  rw [two]
  exact two _ _
section
variable {K : PySem.W.Frag} {H : Hp} {Q : VK} {a : Addr} {σ : L2.St}
theorem r_sum {ns : List Int} (h : SqL K H a (ns.map V.int)) (q : Q (.int ns.sum) H) : rSum K [.ref a] H Q := ⟨a, ns, rfl, h, q⟩
theorem r_glst {k : Nat} {T : TGs} {R : L2.St → Hp → Prop} {xs : List V} (h : SqL K H a xs) (e : xs.length = k) (q : T xs σ H R) : gLst K k T (.ref a) σ H R := ⟨a, xs, rfl, h, e, q⟩
theorem r_notIn {x : V} {xs : List V} {b : Bool} (h : SqL K H a xs ∨ SqT K H a xs) (f : flatV x = true) (fs : xs.all flatV = true) (e : inV x xs = b) (q : Q (.bl (!b)) H) : rIn K true x (.ref a) H Q := by
  subst e
  exact ⟨a, xs, rfl, h, f, fs, q⟩
theorem r_in {x : V} {xs : List V} {b : Bool} (h : SqL K H a xs ∨ SqT K H a xs) (f : flatV x = true) (fs : xs.all flatV = true) (e : inV x xs = b) (q : Q (.bl b) H) : rIn K false x (.ref a) H Q := by
  subst e
  exact ⟨a, xs, rfl, h, f, fs, q⟩
theorem r_lenP {C dx : Addr} {fs : List (Str × V)} {sp : Sp} (h : H a = some (.ins C dx fs)) (q : sp [.ref a] H (fun v H' => ∃ n : Nat, v = .int n ∧ n < 1000000 ∧ Q (.int n) H') E0) : rLenP C sp [.ref a] H Q := ⟨a, dx, fs, rfl, h, q⟩
end
theorem r_par3 {σ : L2.St} {H : Hp} {D : Ends} {tas : TA} {i j l : Nat} (h : tas σ H fun vs H1 => ∃ u v w, vs = [u, v, w] ∧ D.nx (((σ.set i (some u)).set j (some v)).set l (some w)) H1) : tPar3 i j l tas D σ H := h
theorem r_expar3 {x y z : V} {R : V → V → V → Prop} (h : R x y z) : ∃ u v w, [x, y, z] = [u, v, w] ∧ R u v w := ⟨x, y, z, rfl, h⟩
set_option Elab.async false
set_option linter.all false
set_option maxRecDepth 100000
set_option maxHeartbeats 4000000
/-! ## defs that run where no repr is under way -/
structure FnG (P : Program) (w : World) (K : PySem.W.Frag) (mg : Str → Option Value) (base : Heap) (k : Nat) (f : Addr) (fd : FuncData) (ps : List Str) (sp : Sp) : Prop where
  len : ∀ vs H Q E, sp vs H Q E → vs.length = ps.length
  go : ∀ (B : Around) (up : List Env) (s : Shared) (H : Hp) (args : Args) (us : List Value) (vs : List V) (Q : VK) (E : XK),
    B.guards = some [] → Room k B → Env0 P w K mg base B up s H → BindsTo s fd args (ps.zip us) →
    Vals vs us → sp vs H Q E →
    codeAny (model P w) B (.call (.ref f) args) (CR CX0 up P w H s Q E) s
theorem fnG_of {P : Program} {w : World} {K : PySem.W.Frag} {mg : Str → Option Value} {base : Heap} {k : Nat} {f : Addr} {nm q : Str} {pr : Arguments} {bd : List Stmt} {sc : Scope} {fd : FuncData} {N ps : List Str} {sp : Sp}
    (D : FunD K nm q pr bd sc [] [] f fd) (S : FnScope N ps sc) (len : ∀ vs H Q E, sp vs H Q E → vs.length = ps.length)
    (body : ∀ (cdv : Value) (B : Around) (up : List Env) (s : Shared) (H : Hp) (vs : List V) (Q : VK) (E : XK), B.guards = some [] →
      Room k (B.deeper (envOfC q sc s.heap.objs.size f cdv)) → sp vs H Q E →
      ∃ t, PSs (cxOf CX0 P w K mg base N q sc f cdv B up s H E) bd t ∧ t ⟨fun _ H' => Q .non H', Q, fun _ _ => False, fun _ _ => False⟩ (start N vs) H) :
    FnG P w K mg base (k + 1) f fd ps sp := by
  obtain ⟨oc, od, dV, kV, doc, pm, an, cdv, ct, osl, rfl, lk, hcd, _, _⟩ := D.ex
  refine ⟨len, fun B up s H args us vs Q E gd room e0 bnd rel hsp => ?_⟩
  have kin : K.In s.heap := e0.mod.kin.keeps fun b o e => (e0.bs b o e).1
  have nolim := e0.mod.nolimit.keeps fun b o e => (e0.bs b o e).1
  have locals : ∀ y ∈ ps.zip us, sc.names.lookup y.1 = some .local ∨
      (sc.names.lookup y.1 = some .cell ∧ ((cellsFrom (s.heap.objs.size + 1) sc.names []).lookup y.1).isSome = true) := by
    rintro ⟨n, v⟩ hy
    exact (S.par n (List.of_mem_zip hy).1).imp_right fun c => ⟨c, PySem.W.cellsFrom_some _ _ _ (.inl c)⟩
  refine codeAny_call_function room.depth (kin _ _ lk) rfl S.co S.gen rfl (PySem.W.codeRec_of kin hcd) (bnd _ _ _ _ ?_)
  refine wpAny_newFunctionEnv_cells S.kind locals fun env ev s1 made => ?_
  subst ev
  refine ⟨nolim.keeps made.toInCall.keep, codeAny_func ?_⟩
  obtain ⟨t, pt, go⟩ := body cdv B up s H vs Q E gd (room.deeper _) hsp
  have I0 : Inv (cxOf CX0 P w K mg base N q sc f cdv B up s H E) [] (start N vs) H s1 :=
    inv_start S room.hd e0 (len _ _ _ _ hsp) rel made
  refine wpAny_mono (pt.run [] s1 (start N vs) H _ I0 go) (fun out s2 r => ?_) fun _ _ r => r
  have out_ : ∀ {σ2 : L2.St} {H2 : Hp} {v : V} {u : Value},
      Inv (cxOf CX0 P w K mg base N q sc f cdv B up s H E) [] σ2 H2 s2 → RelV v u → Q v H2 → CE up P w H s Q u s2 :=
    fun {σ2 H2 v u} J rv z => ⟨v, H2, J.os, J.bare, J.base, J.hok, rv, z⟩
  cases out with
  | next =>
    obtain ⟨σ2, H2, J, z⟩ := r
    exact out_ (v := .non) (u := .none) J rfl z
  | ret u =>
    obtain ⟨v, σ2, H2, J, rv, z⟩ := r
    exact out_ J rv z
  | brk => exact r.elim fun _ h => h.elim fun _ h => h.2.elim
  | cont => exact r.elim fun _ h => h.elim fun _ h => h.2.elim
structure FkG (P : Program) (w : World) (K : PySem.W.Frag) (mg : Str → Option Value) (base : Heap) (x : Str) (ps : List Str) (k : Nat) (sp : Sp) (st : Stmt) (q : Str) : Prop where
  ex : ∃ (f : Addr) (fd : FuncData), FnG P w K mg base k f fd ps sp ∧ mg x = some (.ref f) ∧ PySem.W.keepIn K (.ref f) = true ∧ Binds K fd ps [] ∧ FunD K x q (defArgs st) (defBody st) (defScope st) [] [] f fd
def BodyG (P : Program) (w : World) (K : PySem.W.Frag) (mg : Str → Option Value) (base : Heap) (d : Df) (N : List Str) (k : Nat) (sp : Sp) : Prop :=
  ∀ (cdv : Value) (A : Around) (outer : List Env) (s : Shared) (H : Hp) (vs : List V) (Q : VK) (E : XK), A.guards = some [] → Room k (A.deeper (envOfC d.qual (defScope d.st) s.heap.objs.size (d.at_ K) cdv)) → sp vs H Q E →
      ∃ t, PSs (cxOf CX0 P w K mg base N d.qual (defScope d.st) (d.at_ K) cdv A outer s H E).nox (defBody d.st) t ∧ t { nx := fun _ H' => Q .non H', rt := Q } (start N vs) H
section
variable {fa : List Fb} {fn : List Df} {K : PySem.W.Frag} {mg : Str → Option Value} {base : Heap} {P : Program} {w : World}
theorem Tx.fkG (T : Tx fa fn K mg base) (i j : Nat) {x q : Str} {st : Stmt} {N ps : List Str} {k : Nat} {sp : Sp} (S : FnScope N ps (defScope st)) (hb : BndOk ⟨fun K => He.ga K x, x, q, st⟩ ps) (len : ∀ vs H Q E, sp vs H Q E → vs.length = ps.length)
    (body : BodyG P w K mg base ⟨fun K => He.ga K x, x, q, st⟩ N k sp) (hd : fn[i]? = some ⟨fun K => He.ga K x, x, q, st⟩ := by rfl) (hg : fa[j]? = some (.b (.glo x)) := by rfl) : FkG P w K mg base x ps (k + 1) sp st q := by
  obtain ⟨fd, F⟩ := T.def_ i hd
  refine ⟨_, fd, fnG_of F S len fun cdv A outer s H vs Q E gd hr h => ?_, T.glo j hg, F.kp, F.bindsN hb, F⟩
  obtain ⟨t, h1, h2⟩ := body cdv A outer s H vs Q E gd hr h
  exact ⟨t, PSs.nox h1, h2⟩
end
section
variable {X : Cx} {x q : Str} {st : Stmt} {ps : List Str} {k j : Nat} {sp : Sp} {p pos : Pos} {e : Expr} {es : List Expr} {t : TA}
theorem pe_fG (h : FkG X.prog X.w X.K X.mg X.base x ps k sp st q) (gd : X.A.guards = some []) (hr : Room j X.A) (ha : PA X (e :: es) t) (hj : k ≤ j := by decide) (hg : Gl X x := by rfl) (hdb : (x == ("__debug__" : Str)) = false := by decide)
    (he : starEach (e :: es) X.env = (false, eval e X.env) :: starEach es X.env := by rfl) (hpl : (backTo pos (starEach es X.env)).any (·.1) = false := by rfl) : PE X (.Call (.Name x p) (e :: es) [] pos) (tCall sp [] E0 t) := by
  obtain ⟨f, fd, F, hm, kp, b, _⟩ := h.ex
  refine ⟨fun pins s σ H Q I hh => wpAny_Call_Name_kw (ld_glob I hg hm ?_ hdb)⟩
  refine PySem.W.callWith_K (h₀ := X.base) I.ok.mod.kin kp (thn (ha.run pos pins s σ H _ I hh) ?_) he hpl
  rintro us s1 ⟨vs, H1, I1, r, z⟩
  replace z : sp (vs ++ []) H1 Q E0 := z
  rw [List.append_nil] at z
  have hl : us.length = ps.length := r.length.symm.trans (F.len _ _ _ _ z)
  have bnd : BindsTo s1 fd ⟨us, []⟩ (ps.zip us) := by
    have := b s1 us I1.kIn (by rw [List.append_nil]; exact hl)
    rwa [List.append_nil] at this
  refine ⟨I1.kIn, wpAny_call (codeAny_mono (F.go X.A X.stack s1 H1 ⟨us, []⟩ us vs Q E0 gd (hr.mono hj) I1.env0 bnd r z) fun out s2 y => ?_)⟩
  cases out with
  | error e => exact y.elim
  | ok fl =>
    cases fl with
    | ret u => exact I1.after y
    | next => exact False.elim y
    | brk => exact False.elim y
    | cont => exact False.elim y
end
/-! ## repr of data -/
def rRepr (K : PySem.W.Frag) : List V → Hp → VK → Prop := fun xs H Q => ∃ (a : Addr) (d : PyData), xs = [.ref a] ∧ Dp K H (.ref a) d ∧ (d.showable = true ∧ d.hasDict = false ∧ d.depth ≤ 60 ∧ d.shown.length ≤ sizeLine) ∧ Q (.str d.shown) H
theorem cr_repr {X : Cx} (gd : X.A.guards = some []) (hu : X.A.units + 64 < cLine) : CallR X (.builtin "repr") (rRepr X.K) := by
  intro pins s σ H xs us Q I r h
  obtain ⟨a, d, rfl, dp, ⟨h1, h2, h3, h4⟩, z⟩ := h
  rw [Vals.ref1 r]
  obtain ⟨as, rd⟩ := Dp.reads I d _ (.ref a) dp rfl
  exact repr_of_reads' rd h1 (PyData.noDict_hsm h2) gd (by omega) (fun _ _ e => e) (fun h' u tk hk => ⟨.str d.shown, H, I.kept hk, ⟨u, rfl⟩, z⟩) h4
/-! ## a law's end, where its own def runs so -/
section
variable {P : Program} {w : World} {K : PySem.W.Frag} {mg mb : Str → Option Value} {k : Nat} {fa a : Addr} {fd : FuncData} {x : Str} {sp : Sp} {s1 : Shared} {vs : List Value} {ns : List Int}
/-- what the law's call comes to -/
abbrev Fine (s1 : Shared) (r : Result) (s2 : Shared) : Prop := r = .ok (.ret (.bool true)) ∧ OldK s1.heap s2.heap ∧ s2.os = s1.os ∧ AllBare s2.gens
theorem law_mid (kin : K.In s1.heap) (gns : s1.heap.Ns mainGlobals mg) (bns : s1.heap.Ns builtinsNs mb) (bis : ∀ y : Str, y ≠ "__name__" → mb y = bootBuiltins y) (nol : s1.heap.NoLimit) (gen0 : s1.gens = #[])
    (la : s1.heap.get? a = some { cls := .type "list", data := .seq vs.toArray }) (room : Room k callerA)
    (F : ∀ bs : Heap, K.In bs → bs.Ns mainGlobals mg → FnG P w K mg bs k fa fd [x] sp)
    (bnd : ∀ (s : Shared) (u : Value), BindsTo s fd ⟨[u], []⟩ [(x, u)])
    {H : Hp} (only : Only H) (say : sp [.ref a] H (fun v _ => v = .bl true) fun _ _ _ => False)
    (okH : HOk P w H s1.heap) (isA : ∀ b, H b ≠ none → b = a) (noK : H a ≠ none → K.lookup a = none) :
    codeAny (model P w) callerA (.call (.ref fa) ⟨[.ref a], []⟩) (Fine s1) s1 := by
  have keep0 : ∀ {b : Addr} {o : Obj}, s1.heap.get? b = some o → H b = none →
      (hidT s1.heap H).get? b = some o := fun e n => hidT_get e n
  have free : ∀ {b : Addr} {o : Obj} {es : Array DictEntry} {ep : Nat},
      s1.heap.get? b = some o → o.data = .dict es ep → H b = none := by
    intro b o es ep e d
    cases c : H b with
    | none => rfl
    | some u =>
      obtain rfl := isA b (by rw [c]; exact nofun)
      rw [la] at e
      obtain rfl := Option.some.inj e
      exact absurd d (by exact nofun)
  have nsT : ∀ {b : Addr} {m : Str → Option Value}, s1.heap.Ns b m → (hidT s1.heap H).Ns b m := by
    rintro b m ⟨o, es, ep, e, d, z⟩
    exact ⟨o, es, ep, keep0 e (free e d), d, z⟩
  have kinT : K.In (hidT s1.heap H) := by
    intro b o e
    refine keep0 (kin b o e) ?_
    cases c : H b with
    | none => rfl
    | some u =>
      obtain rfl := isA b (by rw [c]; exact nofun)
      rw [noK (by rw [c]; exact nofun)] at e
      cases e
  obtain ⟨mc, c1, c2⟩ := nol
  have env : Env0 P w K mg (hidT s1.heap H) callerA [] s1 H :=
    ⟨rfl, ⟨kinT, nsT gns, ⟨mb, nsT bns, bis⟩, mc, nsT c1, c2⟩, fun b o e => of_hidT e, Nat.le_of_eq (hidT_size _ _), trivial, fun b hb => absurd hb List.not_mem_nil, okH, .of_eq gen0⟩
  have go := (F _ kinT (nsT gns)).go callerA [] s1 H ⟨[.ref a], []⟩ [.ref a] [.ref a] (fun v _ => v = .bl true) (fun _ _ _ => False)
    rfl room env (bnd s1 (.ref a)) (.cons rfl .nil) say
  refine codeAny_mono go fun r s2 out => ?_
  cases r with
  | error e => exact False.elim out
  | ok fl =>
    cases fl with
    | next => exact False.elim out
    | brk => exact False.elim out
    | cont => exact False.elim out
    | ret u =>
      obtain ⟨v, H2, os, bare, un, ok2, rv, z⟩ := out
      obtain rfl : v = .bl true := z
      obtain rfl : u = Value.bool true := rv
      refine ⟨rfl, OldK.of_keep fun b o e => ?_, os, bare⟩
      cases c : H b with
      | none => exact un.keep b o e c (fun m => absurd m List.not_mem_nil) (fun m => absurd m List.not_mem_nil)
      | some y =>
        rcases only b with n | ⟨ob, xs, n⟩
        · rw [c] at n
          cases n
        · obtain ⟨g1, _⟩ := okH b _ n
          obtain ⟨g2, _⟩ := ok2 b _ (un.frzs b ob _ n)
          rw [e] at g1
          cases g1
          exact g2
end
theorem walk_ofG {l : PySem.W.OpenLaw} {n k : Nat} {q : Program} {loose : List Str} {XP : (Str → Option Value) → Heap → Prop} {YP : World → Heap → Prop} {d : DefRec} {x : Str}
    (hn : l.most = some n) (hn2 : n ≤ sizeLine) (hdf : d.params.defaults = []) (room : Room k callerA)
    (F : ∀ (w : World) (mg : Str → Option Value) (fa : Addr) (h : Heap), YP w h → h.Ns mainGlobals mg → mg d.name = some (.ref fa) → ∃ (K : PySem.W.Frag) (fd : FuncData) (sp : Sp), K.In h ∧
      (∀ (s : Shared) (u : Value), BindsTo s fd ⟨[u], []⟩ [(x, u)]) ∧ (∀ (H : Hp) (a : Addr) (ns : List Int), ns.length ≤ n → Only H → SqL K H a (ns.map V.int) → sp [.ref a] H (fun v _ => v = .bl true) fun _ _ _ => False) ∧
      ∀ bs : Heap, K.In bs → bs.Ns mainGlobals mg → FnG l.prog w K mg bs k fa fd [x] sp) :
    PySem.W.WalkO q loose XP YP l.row.toRowW d [] (fun f vs => PySem.call f vs) := by
  refine Att.attach_call hn hdf fun w s0 s1 mg mb fa o pm cd doc a vs ns G Y ho hd hcd hmg la whole len gen0 => ?_
  obtain ⟨K, fd, sp, kin, bnd, say, hF⟩ := F w mg fa _ Y G.T.g hmg
  have rv := vals_ints whole
  have lv := whole.length
  have lz : ns.length ≤ sizeLine := Nat.le_trans len hn2
  by_cases c : K.lookup a = none
  · let H : Hp := fun b => if b = a then some (.frz { cls := .type "list", data := .seq vs.toArray } (.lst (ns.map V.int))) else none
    have at_ : H a = some (.frz { cls := .type "list", data := .seq vs.toArray } (.lst (ns.map V.int))) := if_pos rfl
    have off : ∀ b, b ≠ a → H b = none := fun b h => if_neg h
    have only : Only H := fun b => by
      by_cases h : b = a
      · exact .inr ⟨_, _, h ▸ at_⟩
      · exact .inl (off b h)
    refine law_mid kin G.T.g G.T.b G.T.builtins G.T.nolimit gen0 la room hF bnd only (say H a ns len only (.inl (.inr ⟨_, at_⟩))) (fun b u e => ?_) (fun b h => ?_) fun _ => c
    · by_cases h : b = a
      · subst h
        rw [at_] at e
        obtain rfl := Option.some.inj e
        exact ⟨la, by rw [List.length_map]; exact lz, vs, _, rv, la⟩
      · rw [off b h] at e
        cases e
    · by_cases h2 : b = a
      · exact h2
      · exact absurd (off b h2) h
  · obtain ⟨ob, c⟩ := Option.ne_none_iff_exists'.mp c
    have e := kin a ob c
    rw [la] at e
    obtain rfl := Option.some.inj e
    have sq : SqL K (fun _ => none) a (ns.map V.int) := .inr ⟨_, vs.toArray, _, c, rfl, rfl, rfl, by rw [List.size_toArray, lv]; exact lz, by simpa using rv⟩
    exact law_mid kin G.T.g G.T.b G.T.builtins G.T.nolimit gen0 la room hF bnd (H := fun _ => none) (fun _ => .inl rfl) (say _ a ns len (fun _ => .inl rfl) sq) (fun b u e => nomatch e) (fun b h => absurd rfl h) fun h => absurd rfl h
set_option Elab.async false
set_option linter.all false
set_option maxRecDepth 100000
set_option maxHeartbeats 4000000
/-! ## zip of several lists -/
abbrev IsSeqT (h : Heap) (T : Addr) (xs : Array Value) : Prop := h.get? T = some { cls := .type "tuple", data := .seq xs }
/-- a loop whose state stays the same -/
theorem wpAny_forIn_const {M : Model} {A : Around} {E : Value → Shared → Prop} {s : Shared} {α β : Type} {f : α → β → Sem (ForInStep β)} {b : β} {Q : β → Shared → Prop} (l : List α) (I : Nat → Shared → Prop)
    (turn : ∀ j x s, l[j]? = some x → I j s → wpAny M A (f x b) (fun r s' => r = .yield b ∧ I (j + 1) s') E s) (h0 : I 0 s) (fin : ∀ s', I l.length s' → Q b s') : wpAny M A (forIn l b f) Q E s := by
  refine wpAny_forIn_list f (fun rest b' s' => b' = b ∧ ∃ j, j ≤ l.length ∧ rest = l.drop j ∧ I j s') Q (fun x rest b' s' h => ?_) (fun b' s' h => ?_) l b ⟨rfl, 0, Nat.zero_le _, rfl, h0⟩
  · obtain ⟨rfl, j, hj, e, hI⟩ := h
    have hlt : j < l.length := by
      rcases Nat.lt_or_ge j l.length with c | c
      · exact c
      · rw [List.drop_eq_nil_of_le c] at e
        cases e
    rw [List.drop_eq_getElem_cons hlt, List.cons.injEq] at e
    refine wpAny_mono (turn j x s' (by rw [List.getElem?_eq_getElem hlt, e.1]) hI) (fun r s'' hr => ?_) fun _ _ z => z
    obtain ⟨rfl, hr⟩ := hr
    exact ⟨rfl, j + 1, hlt, e.2, hr⟩
  · obtain ⟨rfl, j, hj, e, hI⟩ := h
    have : j = l.length := by
      rcases Nat.lt_or_ge j l.length with c | c
      · rw [List.drop_eq_getElem_cons c] at e
        cases e
      · omega
    subst this
    exact fin s' hI
structure ApartN (z TI TO : Addr) (is ls : List Addr) : Prop where
  TIz : TI ≠ z
  TOz : TO ≠ z
  TITO : TI ≠ TO
  iz : z ∉ is
  iTI : TI ∉ is
  iTO : TO ∉ is
  nd : is.Nodup
  lz : z ∉ ls
  lTO : TO ∉ ls
  li : ∀ l ∈ ls, l ∉ is
/-- list iterators over lists, all at the k-th turn -/
def ItsAt (h : Heap) (k : Nat → Nat) (is ls : List Addr) : Prop := ∀ m i l, is[m]? = some i → ls[m]? = some l → h.IsListIter i l (k m)
section
variable {prog : Program} {w : World} {A : Around} {E : Value → Shared → Prop} {s : Shared}
theorem zipN_next {z TI TO : Addr} {is ls : List Addr} {k : Nat} {ov : Nat → Option Value} {Q : Value → Shared → Prop} (hh : A.handled = none ∨ ∀ m, m < is.length → ov m ≠ none) (D : ApartN z TI TO is ls) (hn : 0 < is.length ∧ is.length ≤ 100) (hll : ls.length = is.length)
    (hz : IsZip s.heap z TI TO .none) (hTI : IsSeqT s.heap TI (is.map Value.ref).toArray) (hTO : ∃ a : Array Value, a.size = is.length ∧ IsSeqT s.heap TO a)
    (hi : ItsAt s.heap (fun _ => k) is ls) (hl : ∀ m l, ls[m]? = some l → ∃ xs, s.heap.IsList l xs ∧ xs[k]? = ov m)
    (hQ : ∀ h' (vs : List Value), vs.length = is.length → (∀ m, m < is.length → ov m = vs[m]?) → IsZip h' z TI TO (rawInt s.heap.objs.size) → IsSeqT h' TO vs.toArray → ItsAt h' (fun _ => k + 1) is ls → IsSeqT h' s.heap.objs.size vs.toArray → h'.objs.size = s.heap.objs.size + 1 →
      (∀ c o, c ≠ z → c ≠ TO → c ∉ is → s.heap.get? c = some o → h'.get? c = some o) → Q (.ref s.heap.objs.size) { s with heap := h' })
    (hE : ∀ h' e, (∃ m, m < is.length ∧ ov m = none) → (∀ c o, c ≠ z → c ≠ TO → c ∉ is → s.heap.get? c = some o → h'.get? c = some o) → (∃ o, h'.get? e = some o ∧ o.cls = .type "StopIteration") → E (.ref e) { s with heap := h' }) :
    wpAny (model prog w) A (Builtin.«zip.__next__» ⟨[.ref z], []⟩) (fun fin s' => ∃ v, fin = .done (.ret v) ∧ Q v s') E s := by
  obtain ⟨hn0, hn1⟩ := hn
  have small : ∀ {m : Nat}, m ≤ 100 → m ≤ sizeLine := fun h => Nat.le_trans h (by decide)
  show wpAny _ _ (field (.ref z) 2 >>= _) _ _ _
  refine wpAny_bind (wpAny_field hz rfl (x := .bool false) rfl ?_)
  show wpAny _ _ (field (.ref z) 3 >>= _) _ _ _
  refine wpAny_bind (wpAny_field hz rfl (x := .ref TI) rfl ?_)
  refine wpAny_bind (wpAny_seqItems hTI rfl ?_)
  have hemp : (is.map Value.ref).toArray.isEmpty = false := by
    cases is with
    | nil => exact absurd hn0 (by simp)
    | cons _ _ => simp
  dsimp only
  rw [hemp]
  show wpAny _ _ (Builtin.SmallTypes.ownedTupleIsFree (.ref z) >>= _) _ _ _
  refine wpAny_bind ?_
  unfold Builtin.SmallTypes.ownedTupleIsFree
  refine wpAny_bind (wpAny_field hz rfl (x := .none) rfl (wpAny_pure ?_))
  simp only [if_true]
  refine wpAny_bind (wpAny_rule ?_)
  refine wpAny_bind (wpAny_field hz rfl (x := .ref TO) rfl ?_)
  refine wpAny_bind (wpAny_setField_rec hz (by simp) fun h₁ hz₁ hs₁ => ?_)
  replace hz₁ : IsZip h₁ z TI TO .ellipsis := hz₁
  refine wpAny_bind (wpAny_forIn_const _ (fun j s' => ∃ h', s' = { s with heap := h' } ∧ IsZip h' z TI TO .ellipsis ∧ (∃ a : Array Value, a.size = is.length ∧ IsSeqT h' TO a ∧ ∀ m, m < j → ov m = a[m]?) ∧
    ItsAt h' (fun m => if m < j then k + 1 else k) is ls ∧ h'.objs.size = s.heap.objs.size ∧ (∀ c o, c ≠ z → c ≠ TO → c ∉ is → s.heap.get? c = some o → h'.get? c = some o)) ?_ ?_ ?_)
  · rintro j x s' hx ⟨h₂, rfl, hz₂, ⟨a, ha, hTO₂, hov⟩, hi₂, hsz, hk⟩
    have hj : j < is.length := by
      have := (List.getElem?_eq_some_iff.mp hx).1
      simpa using this
    obtain ⟨i, ei⟩ : ∃ i, is[j]? = some i := ⟨_, List.getElem?_eq_getElem hj⟩
    obtain ⟨l, el⟩ : ∃ l, ls[j]? = some l := ⟨_, List.getElem?_eq_getElem (hll ▸ hj)⟩
    obtain rfl : x = (Value.ref i, j) := by
      rw [List.getElem?_zipIdx] at hx
      simp only [List.toList_toArray, List.getElem?_map, ei, Option.map_some, Nat.zero_add] at hx
      exact (Option.some.inj hx).symm
    have mi := List.mem_of_getElem? ei
    have ml := List.mem_of_getElem? el
    have hiz : i ≠ z := fun e => D.iz (e ▸ mi)
    have hiTO : i ≠ TO := fun e => D.iTO (e ▸ mi)
    have hlz : l ≠ z := fun e => D.lz (e ▸ ml)
    have hlTO : l ≠ TO := fun e => D.lTO (e ▸ ml)
    obtain ⟨xs, hxs, hxk⟩ := hl j l el
    have hxs₂ : h₂.IsList l xs := hxs.at fun o e => hk l o hlz hlTO (D.li l ml) e
    have hij : h₂.IsListIter i l k := by
      have := hi₂ j i l ei el
      dsimp only at this
      rwa [if_neg (Nat.lt_irrefl _)] at this
    refine wpAny_bind (wpAny_onRaise ?_)
    show wpAny _ _ (Builtin.SmallTypes.nextOf (.ref i) >>= _) _ _ _
    cases hv : ov j with
    | none =>
      rw [hv] at hxk
      have hh : A.handled = none := hh.elim id fun z => absurd hv (z j hj)
      refine wpAny_bind (wpAny_nextOf_list_end hh hij hxs₂ hxk fun h₃ e hs₃ he => ?_)
      obtain ⟨oe, hoe, hce⟩ := he
      have hz₃ : IsZip h₃ z TI TO .ellipsis := hs₃ _ _ (Ne.symm hiz) hz₂
      have hez : e ≠ z := fun x => by subst x; rw [hz₃] at hoe; cases hoe; simp at hce
      refine wpAny_setField_rec hz₃ (by simp) fun h₄ _ hs₄ => hE h₄ e ⟨j, hj, hv⟩ (fun c o c1 c2 c3 x => hs₄.extBut _ _ c1 (hs₃ _ _ (fun q => c3 (q ▸ mi)) (hk c o c1 c2 c3 x))) ⟨oe, hs₄.extBut _ _ hez hoe, hce⟩
    | some v =>
      rw [hv] at hxk
      refine wpAny_bind (wpAny_nextOf_list_item hij hxs₂ hxk fun h₃ hij₃ hs₃ => wpAny_pure ?_)
      have hTO₃ : IsSeqT h₃ TO a := hs₃.extBut _ _ (Ne.symm hiTO) hTO₂
      refine wpAny_bind (wpAny_seqItems hTO₃ rfl ?_)
      refine wpAny_bind (wpAny_updateSeq (f := fun y => y.setIfInBounds j v) hTO₃ rfl ?_ (by rw [ha]; exact small hn1) (by rw [Array.size_setIfInBounds, ha]; exact Nat.le_succ_of_le (small hn1)))
      have hs₄ := Heap.SameBut.update h₃ TO (Obj.mapSeq fun y => y.setIfInBounds j v)
      have hTO₄ : IsSeqT (h₃.update TO (Obj.mapSeq fun y => y.setIfInBounds j v)) TO (a.setIfInBounds j v) := by
        show _ = _
        rw [Heap.get?_update_self _ hTO₃ rfl]
        simp [Obj.mapSeq]
      refine wpAny_bind (wpAny_letGo (wpAny_pure ⟨rfl, _, rfl, ?_, ⟨_, by rw [Array.size_setIfInBounds, ha], hTO₄, fun m hm => ?_⟩, fun m i' l' em el' => ?_, ?_, fun c o c1 c2 c3 x => ?_⟩))
      · exact hs₄.extBut _ _ (Ne.symm D.TOz) (hs₃.extBut _ _ (Ne.symm hiz) hz₂)
      · by_cases c : m = j
        · subst c
          rw [hv, Array.getElem?_setIfInBounds_self_of_lt (by omega)]
        · rw [Array.getElem?_setIfInBounds_ne (by omega)]
          exact hov m (by omega)
      · have mi' := List.mem_of_getElem? em
        have iTO' : i' ≠ TO := fun e => D.iTO (e ▸ mi')
        by_cases c : m = j
        · subst c
          rw [ei] at em
          rw [el] at el'
          obtain rfl := Option.some.inj em
          obtain rfl := Option.some.inj el'
          show Heap.IsListIter _ _ _ (if _ then _ else _)
          rw [if_pos (Nat.lt_succ_self _)]
          exact hij₃.extBut hs₄.extBut iTO'
        · have e1 : (if m < j + 1 then k + 1 else k) = if m < j then k + 1 else k := by
            by_cases c2 : m < j
            · rw [if_pos c2, if_pos (by omega)]
            · rw [if_neg c2, if_neg (by omega)]
          show Heap.IsListIter _ _ _ (if _ then _ else _)
          rw [e1]
          have ne : i' ≠ i := fun e => by
            subst e
            obtain ⟨h1, e1⟩ := List.getElem?_eq_some_iff.mp em
            obtain ⟨h2, e2⟩ := List.getElem?_eq_some_iff.mp ei
            exact c ((List.getElem_inj D.nd).mp (e1.trans e2.symm))
          exact ((hi₂ m i' l' em el').extBut hs₃.extBut ne).extBut hs₄.extBut iTO'
      · rw [hs₄.1, hs₃.1, hsz]
      · exact hs₄.extBut _ _ c2 (hs₃.extBut _ _ (fun q => c3 (q ▸ mi)) (hk c o c1 c2 c3 x))
  · obtain ⟨a, ha, hTOa⟩ := hTO
    refine ⟨h₁, rfl, hz₁, ⟨a, ha, hs₁.extBut _ _ D.TOz hTOa, fun m hm => absurd hm (Nat.not_lt_zero m)⟩, fun m i l em el => ?_, hs₁.1, fun c o c1 _ _ x => hs₁.extBut _ _ c1 x⟩
    show Heap.IsListIter _ _ _ (if _ then _ else _)
    rw [if_neg (Nat.not_lt_zero m)]
    exact (hi m i l em el).extBut hs₁.extBut fun e => D.iz (e ▸ List.mem_of_getElem? em)
  · rintro s' ⟨h₅, rfl, hz₅, ⟨a, ha, hTO₅, hov⟩, hi₅, hsz, hk₅⟩
    have el : (is.map Value.ref).toArray.toList.zipIdx.length = is.length := by simp
    rw [el] at hov hi₅
    refine wpAny_bind (wpAny_seqItems hTO₅ rfl ?_)
    refine wpAny_bind (wpAny_newTuple ?_ (by rw [Array.length_toList, ha]; exact small hn1))
    have hzlt : z < h₅.objs.size := Heap.lt_size hz₅
    show wpAny _ _ (Builtin.SmallTypes.ownedTupleHandOut (.ref z) (.ref h₅.objs.size) >>= _) _ _ _
    refine wpAny_bind ?_
    unfold Builtin.SmallTypes.ownedTupleHandOut
    have hz₆ : IsZip (h₅.push { cls := .type "tuple", data := .seq a.toList.toArray }) z TI TO .ellipsis := Heap.get?_push_of_some _ hz₅
    refine wpAny_bind (wpAny_setField_rec hz₆ (by simp) fun h₇ hz₇ hs₇ => ?_)
    replace hz₇ : IsZip h₇ z TI TO (rawInt h₅.objs.size) := hz₇
    refine wpAny_setField_rec hz₇ (by simp) fun h₈ hz₈ hs₈ => ?_
    replace hz₈ : IsZip h₈ z TI TO (rawInt h₅.objs.size) := hz₈
    have up : ∀ c o, c ≠ z → h₅.get? c = some o → h₈.get? c = some o := fun c o c1 e => hs₈.extBut _ _ c1 (hs₇.extBut _ _ c1 (Heap.get?_push_of_some _ e))
    have hT₈ : IsSeqT h₈ h₅.objs.size a.toList.toArray := hs₈.extBut _ _ (Nat.ne_of_gt hzlt) (hs₇.extBut _ _ (Nat.ne_of_gt hzlt) (Heap.get?_push_size _ rfl))
    have hz8 : h₈.objs.size = h₅.objs.size + 1 := by rw [hs₈.1, hs₇.1, Heap.size_push]
    rw [hsz] at hz₈ hT₈ hz8
    refine wpAny_pure ⟨_, rfl, ?_⟩
    show Q (.ref h₅.objs.size) _
    rw [hsz]
    refine hQ h₈ a.toList (by rw [Array.length_toList, ha]) (fun m hm => by rw [hov m hm, Array.getElem?_toList]) hz₈ ?_ (fun m i l em el => ?_) hT₈ hz8 fun c o c1 c2 c3 e => up c o c1 (hk₅ c o c1 c2 c3 e)
    · rw [Array.toArray_toList]
      exact up _ _ D.TOz hTO₅
    · have := hi₅ m i l em el
      dsimp only at this
      rw [if_pos (List.getElem?_eq_some_iff.mp em).1] at this
      exact this.at fun o e => up _ o (fun q => D.iz (q ▸ List.mem_of_getElem? em)) e
theorem pyNext_zipN {z TI TO : Addr} {is ls : List Addr} {k : Nat} {ov : Nat → Option Value} {Q : Option Value → Shared → Prop} (hh : A.handled = none ∨ ∀ m, m < is.length → ov m ≠ none) (D : ApartN z TI TO is ls) (hn : 0 < is.length ∧ is.length ≤ 100) (hll : ls.length = is.length)
    (hz : IsZip s.heap z TI TO .none) (hTI : IsSeqT s.heap TI (is.map Value.ref).toArray) (hTO : ∃ a : Array Value, a.size = is.length ∧ IsSeqT s.heap TO a)
    (hi : ItsAt s.heap (fun _ => k) is ls) (hl : ∀ m l, ls[m]? = some l → ∃ xs, s.heap.IsList l xs ∧ xs[k]? = ov m)
    (hQ : ∀ h' (vs : List Value), vs.length = is.length → (∀ m, m < is.length → ov m = vs[m]?) → IsZip h' z TI TO (rawInt s.heap.objs.size) → IsSeqT h' TO vs.toArray → ItsAt h' (fun _ => k + 1) is ls → IsSeqT h' s.heap.objs.size vs.toArray → h'.objs.size = s.heap.objs.size + 1 →
      (∀ c o, c ≠ z → c ≠ TO → c ∉ is → s.heap.get? c = some o → h'.get? c = some o) → Q (some (.ref s.heap.objs.size)) { s with heap := h' })
    (hE : ∀ h', (∃ m, m < is.length ∧ ov m = none) → (∀ c o, c ≠ z → c ≠ TO → c ∉ is → s.heap.get? c = some o → h'.get? c = some o) → Q none { s with heap := h' }) :
    wpAny (model prog w) A (pyNext (.ref z)) Q E s := by
  have hT : s.TypeIs (.ref z) "zip" := ⟨_, hz, rfl⟩
  unfold pyNext
  refine wpAny_bind (wpAny_attempt (wpAny_callSpecial?_slot (name := Str.ofString "__next__") hT F.slot_zip_next
    (wpAny_call_entry F.slot_zip_next hT F.entry_zip_next (zipN_next hh D hn hll hz hTI hTO hi hl (fun h' vs a0 a1 a2 a3 a4 a5 a6 a7 => wpAny_pure (hQ h' vs a0 a1 a2 a3 a4 a5 a6 a7)) fun h' e hm hk he => ?_) (F.args_zip_next_1 _))))
  obtain ⟨o, ho, hc⟩ := he
  refine wpAny_bind (wpAny_isInstance (T := "StopIteration") (b := true) ⟨o, ho, hc⟩ isSubtype_stop ?_)
  exact wpAny_pure (hE _ hm hk)
end
/-- what stands at the k-th place of the m-th list -/
def ovOf (h : Heap) (ls : List Addr) (k m : Nat) : Option Value := (ls[m]?).bind fun l => (h.get? l).bind fun o => match o.data with
  | .seq xs _ => xs[k]?
  | _ => none
theorem ovOf_is {h : Heap} {ls : List Addr} {k m : Nat} {l : Addr} {xs : Array Value} (e : ls[m]? = some l) (hl : h.IsList l xs) : xs[k]? = ovOf h ls k m := by
  obtain ⟨o, ho, _, n, hd⟩ := hl
  unfold ovOf
  rw [e, Option.bind_some, ho, Option.bind_some, hd]
theorem vals_of : ∀ {vs : List V} {us : List Value}, vs.length = us.length → (∀ (m : Nat) v u, vs[m]? = some v → us[m]? = some u → RelV v u) → Vals vs us
  | [], [], _, _ => .nil
  | [], _ :: _, h, _ => by simp at h
  | _ :: _, [], h, _ => by simp at h
  | v :: vs, u :: us, h, r => .cons (r 0 v u rfl rfl) (vals_of (by simpa using h) fun m v' u' e1 e2 => r (m + 1) v' u' (by simpa using e1) (by simpa using e2))
theorem valsRef : ∀ (as : List Addr) {us : List Value}, Vals (as.map V.ref) us → us = as.map Value.ref
  | [], _, .nil => rfl
  | _ :: as, _, .cons r rr => by
    cases r
    rw [valsRef as rr]
    rfl
/-- the lists as they stand at each turn, the items in new tuples -/
def ItzN (K : PySem.W.Frag) (as : List Addr) : It :=
  ⟨fun i H => ∃ vs : List V, vs.length = as.length ∧ ∀ (m : Nat) a, as[m]? = some a → ∃ xs, SqL K H a xs ∧ xs[i]? = vs[m]?,
    fun i H v H' => ∃ (T : Addr) (vs : List V), v = .ref T ∧ H T = none ∧ H' = upd H T (.tup vs) ∧ vs.length = as.length ∧ ∀ (m : Nat) a xs, as[m]? = some a → SqL K H a xs → xs[i]? = vs[m]?,
    fun i H => (∀ a ∈ as, ∃ xs, SqL K H a xs) ∧ ∃ (m : Nat) (a : Addr) (xs : List V), as[m]? = some a ∧ SqL K H a xs ∧ xs.length ≤ i⟩
theorem turn_zipN {P : Program} {w : World} {K : PySem.W.Frag} {elts : List Expr} {kk : Nat} {tpos : Pos} {z TI TO : Addr} {is as : List Addr} (D : ApartN z TI TO is as) (hn : 0 < is.length ∧ is.length ≤ 100) (hll : as.length = is.length) :
    Turn P w K (.Tuple elts kk tpos) (ItzN K as) (z :: TI :: TO :: is) z (fun i h => IsZip h z TI TO .none ∧ IsSeqT h TI (is.map Value.ref).toArray ∧ (∃ a : Array Value, a.size = is.length ∧ IsSeqT h TO a) ∧ ItsAt h (fun _ => i) is as) where
  mem := by simp
  obj := fun i h st c hc => by
    obtain ⟨hz, hTI, ⟨a, _, hTO⟩, hi⟩ := st
    rcases List.mem_cons.mp hc with rfl | hc
    · exact ⟨_, hz, fun v q => nomatch q⟩
    rcases List.mem_cons.mp hc with rfl | hc
    · exact ⟨_, hTI, fun v q => nomatch q⟩
    rcases List.mem_cons.mp hc with rfl | hc
    · exact ⟨_, hTO, fun v q => nomatch q⟩
    obtain ⟨m, em⟩ := List.mem_iff_getElem?.mp hc
    have lt := (List.getElem?_eq_some_iff.mp em).1
    obtain ⟨o1, e1, _, d1⟩ := hi m c _ em (List.getElem?_eq_getElem (hll ▸ lt))
    exact ⟨o1, e1, fun v q => by rw [d1] at q; cases q⟩
  keep := fun i h h' st k => by
    obtain ⟨hz, hTI, ⟨a, ha, hTO⟩, hi⟩ := st
    exact ⟨k z (by simp) _ hz, k TI (by simp) _ hTI, ⟨a, ha, k TO (by simp) _ hTO⟩, fun m i l em el => (hi m i l em el).at fun o q => k i (by simp [List.mem_of_getElem? em]) o q⟩
  item := by
    intro X hP hw hK hc i pins s σ H E I hf st hg
    subst hP hw hK
    obtain ⟨hz, hTI, hTO, hi⟩ := st
    obtain ⟨vs, hvl, hg⟩ := hg
    have hzl : z < s.heap.objs.size := Heap.lt_size hz
    have lists : ∀ m l, as[m]? = some l → ∃ xs : Array Value, s.heap.IsList l xs ∧ xs[i]? = ovOf s.heap as i m := fun m l el => by
      obtain ⟨xs, hq, _⟩ := hg m l el
      obtain ⟨its, rv, p, _⟩ := I.list hq
      exact ⟨_, p.isList, ovOf_is el p.isList⟩
    have there : ∀ m v, vs[m]? = some v → ∃ u, ovOf s.heap as i m = some u ∧ RelV v u := fun m v ev => by
      have lt := (List.getElem?_eq_some_iff.mp ev).1
      obtain ⟨l, el⟩ : ∃ l, as[m]? = some l := ⟨_, List.getElem?_eq_getElem (hvl ▸ lt)⟩
      obtain ⟨xs, hq, hx⟩ := hg m l el
      obtain ⟨its, rv, p, _⟩ := I.list hq
      obtain ⟨u, hu, ru⟩ := rv.get (hx.trans ev)
      refine ⟨u, ?_, ru⟩
      rw [← ovOf_is el p.isList]
      simpa using hu
    have all : ∀ m, m < is.length → ovOf s.heap as i m ≠ none := fun m hm => by
      obtain ⟨u, e, _⟩ := there m _ (List.getElem?_eq_getElem (by omega))
      rw [e]
      exact nofun
    refine pyNext_zipN (.inr all) D hn hll hz hTI hTO hi lists (fun h' us hul hov z' TO' hi' hT hsz hk => ?_) fun h' hm => absurd hm.choose_spec.2 (all _ hm.choose_spec.1)
    refine ⟨_, rfl, wpAny_letOwnedTupleGo_zip (s := { s with heap := h' }) z' fun h'' z'' sb => ?_⟩
    have hT2 : h''.get? s.heap.objs.size = some { cls := .type "tuple", data := .seq us.toArray } := (sb.2 _ (Nat.ne_of_gt hzl)).trans hT
    have rel : Vals vs us := vals_of (by omega) fun m v u e1 e2 => by
      obtain ⟨u', e3, r⟩ := there m v e1
      have lt := (List.getElem?_eq_some_iff.mp e1).1
      rw [hov m (by omega), e2] at e3
      cases e3
      exact r
    have new : ObjOk X.prog X.w (upd H s.heap.objs.size (.tup vs)) h'' s.heap.objs.size (.tup vs) :=
      ⟨Nat.le_trans (show vs.length ≤ 100 by omega) (by decide), us, rel, ⟨_, hT2, rfl, _, rfl⟩⟩
    have I1 : Inv X pins σ (upd H s.heap.objs.size (.tup vs)) { s with heap := h'' } :=
      I.turnedNew (t' := s.toks) (ch := z :: TI :: TO :: is) (fun c o hb q => (sb.2 c (fun q' => hb (by simp [q']))).trans (hk c o (fun q' => hb (by simp [q'])) (fun q' => hb (by simp [q'])) (fun q' => hb (by simp [q'])) q)) hf (Nat.le_refl _) new
    refine ⟨.ref s.heap.objs.size, _, I1, rfl, ⟨_, vs, rfl, I.hok.fresh (Nat.le_refl _), rfl, hvl, fun m a xs em hq => ?_⟩, ⟨z'', ?_, ⟨us.toArray, by simpa using hul, ?_⟩, fun m i' l em el => ?_⟩, fun c hcm => ?_⟩
    · obtain ⟨xs', hq', hx'⟩ := hg m a em
      rw [I.list_inj hq hq']
      exact hx'
    · exact (sb.2 _ D.TIz).trans (hk _ _ D.TIz D.TITO D.iTI hTI)
    · exact (sb.2 _ D.TOz).trans TO'
    · exact (hi' m i' l em el).at fun o q => (sb.2 _ (fun e => D.iz (e ▸ List.mem_of_getElem? em))).trans q
    · have hlt : c < s.heap.objs.size := by
        rcases List.mem_cons.mp hcm with rfl | hcm
        · exact hzl
        rcases List.mem_cons.mp hcm with rfl | hcm
        · exact Heap.lt_size hTI
        rcases List.mem_cons.mp hcm with rfl | hcm
        · obtain ⟨_, _, e⟩ := hTO
          exact Heap.lt_size e
        obtain ⟨m, em⟩ := List.mem_iff_getElem?.mp hcm
        have lt := (List.getElem?_eq_some_iff.mp em).1
        obtain ⟨o1, e1, _⟩ := hi m c _ em (List.getElem?_eq_getElem (hll ▸ lt))
        exact Heap.lt_size e1
      rw [upd_ne (Nat.ne_of_lt hlt)]
      exact (hf c hcm).1
  done := by
    intro X hP hw hK hc i pins s σ H E I hf st hg
    subst hP hw hK
    obtain ⟨hz, hTI, hTO, hi⟩ := st
    obtain ⟨hall, m0, a0, xs0, em0, hq0, hlen0⟩ := hg
    have lists : ∀ m l, as[m]? = some l → ∃ xs : Array Value, s.heap.IsList l xs ∧ xs[i]? = ovOf s.heap as i m := fun m l el => by
      obtain ⟨xs, hq⟩ := hall l (List.mem_of_getElem? el)
      obtain ⟨its, rv, p, _⟩ := I.list hq
      exact ⟨_, p.isList, ovOf_is el p.isList⟩
    have none0 : ovOf s.heap as i m0 = none := by
      obtain ⟨its, rv, p, _⟩ := I.list hq0
      rw [← ovOf_is em0 p.isList]
      have := rv.length
      simp
      omega
    have lt0 : m0 < is.length := hll ▸ (List.getElem?_eq_some_iff.mp em0).1
    refine pyNext_zipN (.inl (I.ok.hd hc)) D hn hll hz hTI hTO hi lists (fun h' us hul hov _ _ _ _ _ _ => ?_) fun h' _ hk => ⟨rfl, I.turnedL (t' := s.toks) (ch := z :: TI :: TO :: is) (fun c o hb q =>
      hk c o (fun q' => hb (by simp [q'])) (fun q' => hb (by simp [q'])) (fun q' => hb (by simp [q'])) q) hf⟩
    have := hov m0 lt0
    rw [none0] at this
    exact absurd this.symm (by rw [List.getElem?_eq_getElem (by omega)]; exact nofun)
  self := fun A i s Q E st h => wpAny_pyIter_zip st.1 h
theorem typeCall_zip_3 (a1 a2 a3 : Value) : checkTypeCall "zip" ⟨[a1, a2, a3], []⟩ = pure () := by kernel_rfl
theorem newCall_zip_3 (a1 a2 a3 : Value) : checkBuiltinCall "zip.__new__" ⟨[.type "zip", a1, a2, a3], []⟩ = pure () := by kernel_rfl
theorem args_object_init_4 (o a1 a2 a3 : Value) : argsOk "object.__init__" ⟨[o, a1, a2, a3], []⟩ := by
  unfold argsOk; rw [signature?_of (id := "object.__init__") (n := ['_', '_', 't', 'i', 'n', 'i', '_', '_']) (o := ['t', 'c', 'e', 'j', 'b', 'o']) (by kernel_rfl) F.owner_object]; kernel_rfl
abbrev z3H1 (h : Heap) (l1 l2 l3 : Addr) : Heap := h.push { cls := .type "list_iterator", data := .fields #[.ref l1, .int 0 0] }
abbrev z3H2 (h : Heap) (l1 l2 l3 : Addr) : Heap := (z3H1 h l1 l2 l3).push { cls := .type "list_iterator", data := .fields #[.ref l2, .int 0 0] }
abbrev z3H3 (h : Heap) (l1 l2 l3 : Addr) : Heap := (z3H2 h l1 l2 l3).push { cls := .type "list_iterator", data := .fields #[.ref l3, .int 0 0] }
abbrev z3H4 (h : Heap) (l1 l2 l3 : Addr) : Heap := (z3H3 h l1 l2 l3).push { cls := .type "tuple", data := .seq #[.ref h.objs.size, .ref (z3H1 h l1 l2 l3).objs.size, .ref (z3H2 h l1 l2 l3).objs.size] }
abbrev z3H5 (h : Heap) (l1 l2 l3 : Addr) : Heap := (z3H4 h l1 l2 l3).push { cls := .type "tuple", data := .seq #[.none, .none, .none] }
abbrev z3H6 (h : Heap) (l1 l2 l3 : Addr) : Heap := (z3H5 h l1 l2 l3).push { cls := .type "zip", data := .fields #[.none, .bool false, .bool false, .ref (z3H3 h l1 l2 l3).objs.size, .ref (z3H4 h l1 l2 l3).objs.size] }
theorem meets_zip_new_3 (l1 l2 l3 : Addr) (x1 x2 x3 : Array Value) :
    Meets (Builtin.«zip.__new__» ⟨[.type "zip", .ref l1, .ref l2, .ref l3], []⟩) (fun _ R s => s.heap.IsList l1 x1 ∧ s.heap.IsList l2 x2 ∧ s.heap.IsList l3 x3 ∧
      R (.ok (.ret (.ref (z3H5 s.heap l1 l2 l3).objs.size))) { s with heap := z3H6 s.heap l1 l2 l3 }) :=
  .of_wp fun prog w A R s h => by
    obtain ⟨hp, g, d, tk, os⟩ := s; obtain ⟨g1, g2, g3, h⟩ := h
    have hsub := sub_zip
    have hL1 : Heap.IsList (Shared.heap ⟨hp, g, d, tk, os⟩) l1 x1 := g1
    have hL2 : Heap.IsList (Shared.heap ⟨(hp.push { cls := .type "list_iterator", data := .fields #[.ref l1, .int 0 0] }), g, d, tk, os⟩) l2 x2 := (Heap.IsList.push g2 _)
    have hL3 : Heap.IsList (Shared.heap ⟨((hp.push { cls := .type "list_iterator", data := .fields #[.ref l1, .int 0 0] }).push { cls := .type "list_iterator", data := .fields #[.ref l2, .int 0 0] }), g, d, tk, os⟩) l3 x3 := (Heap.IsList.push (Heap.IsList.push g3 _) _)
    wp_walk using wpAny_pyIter_list hL1, wpAny_pyIter_list hL2, wpAny_pyIter_list hL3
    exact ⟨_, rfl, h⟩
theorem call_zip_3 {prog : Program} {w : World} {A : Around} {E : Value → Shared → Prop} {s : Shared} {l1 l2 l3 : Addr} {x1 x2 x3 : Array Value} {Q : Value → Shared → Prop} (g1 : s.heap.IsList l1 x1) (g2 : s.heap.IsList l2 x2) (g3 : s.heap.IsList l3 x3)
    (h : ∀ h', IsZip h' (s.heap.objs.size + 5) (s.heap.objs.size + 3) (s.heap.objs.size + 4) .none → IsSeqT h' (s.heap.objs.size + 3) ([s.heap.objs.size, (s.heap.objs.size + 1), (s.heap.objs.size + 2)].map Value.ref).toArray → (∃ a : Array Value, a.size = 3 ∧ IsSeqT h' (s.heap.objs.size + 4) a) → ItsAt h' (fun _ => 0) [s.heap.objs.size, (s.heap.objs.size + 1), (s.heap.objs.size + 2)] [l1, l2, l3] →
      (∀ c o, s.heap.get? c = some o → h'.get? c = some o) → Q (.ref (s.heap.objs.size + 5)) { s with heap := h' }) :
    wpAny (model prog w) A (call (.type "zip") [.ref l1, .ref l2, .ref l3]) Q E s := by
  refine callType_new F.called_zip (by decide) (typeCall_zip_3 _ _ _) (newCall_zip_3 _ _ _) (fun obj => args_object_init_4 obj _ _ _) F.entry_zip_new
    (meets_zip_new_3 l1 l2 l3 x1 x2 x3) ⟨g1, g2, g3, ?_⟩
  have z1 : (z3H1 s.heap l1 l2 l3).objs.size = s.heap.objs.size + 1 := Heap.size_push ..
  have z2 : (z3H2 s.heap l1 l2 l3).objs.size = s.heap.objs.size + 2 := by rw [Heap.size_push, z1]
  have z3 : (z3H3 s.heap l1 l2 l3).objs.size = s.heap.objs.size + 3 := by rw [Heap.size_push, z2]
  have z4 : (z3H4 s.heap l1 l2 l3).objs.size = s.heap.objs.size + 4 := by rw [Heap.size_push, z3]
  have z5 : (z3H5 s.heap l1 l2 l3).objs.size = s.heap.objs.size + 5 := by rw [Heap.size_push, z4]
  have z6 : (z3H6 s.heap l1 l2 l3).objs.size = s.heap.objs.size + 6 := by rw [Heap.size_push, z5]
  have o1 : (z3H6 s.heap l1 l2 l3).get? s.heap.objs.size = some _ := (Heap.get?_push_of_some _ (Heap.get?_push_of_some _ (Heap.get?_push_of_some _ (Heap.get?_push_of_some _ (Heap.get?_push_of_some _ (Heap.get?_push_size _ rfl))))))
  have o2 : (z3H6 s.heap l1 l2 l3).get? (z3H1 s.heap l1 l2 l3).objs.size = some _ := (Heap.get?_push_of_some _ (Heap.get?_push_of_some _ (Heap.get?_push_of_some _ (Heap.get?_push_of_some _ (Heap.get?_push_size _ rfl)))))
  have o3 : (z3H6 s.heap l1 l2 l3).get? (z3H2 s.heap l1 l2 l3).objs.size = some _ := (Heap.get?_push_of_some _ (Heap.get?_push_of_some _ (Heap.get?_push_of_some _ (Heap.get?_push_size _ rfl))))
  have o4 : (z3H6 s.heap l1 l2 l3).get? (z3H3 s.heap l1 l2 l3).objs.size = some _ := (Heap.get?_push_of_some _ (Heap.get?_push_of_some _ (Heap.get?_push_size _ rfl)))
  have o5 : (z3H6 s.heap l1 l2 l3).get? (z3H4 s.heap l1 l2 l3).objs.size = some _ := (Heap.get?_push_of_some _ (Heap.get?_push_size _ rfl))
  have o6 : (z3H6 s.heap l1 l2 l3).get? (z3H5 s.heap l1 l2 l3).objs.size = some _ := (Heap.get?_push_size _ rfl)
  rw [z1] at o2
  rw [z2] at o3
  rw [z3] at o4
  rw [z4] at o5
  rw [z5] at o6
  rw [z1, z2] at o4
  rw [z3, z4] at o6
  show _ ∧ _
  rw [z5]
  refine ⟨⟨_, o6, rfl⟩, h _ o6 o4 ⟨_, rfl, o5⟩ (fun m i l em el => ?_) fun c o x => (Heap.get?_push_of_some _ (Heap.get?_push_of_some _ (Heap.get?_push_of_some _ (Heap.get?_push_of_some _ (Heap.get?_push_of_some _ (Heap.get?_push_of_some _ x))))))⟩
  match m, em, el with
  | 0, em, el => cases em; cases el; exact ⟨_, o1, rfl, rfl⟩
  | 1, em, el => cases em; cases el; exact ⟨_, o2, rfl, rfl⟩
  | 2, em, el => cases em; cases el; exact ⟨_, o3, rfl, rfl⟩
theorem apart3 {N b1 b2 b3 : Nat} (g1 : b1 < N) (g2 : b2 < N) (g3 : b3 < N) : ApartN (N + 5) (N + 3) (N + 4) [N, N + 1, N + 2] [b1, b2, b3] := by
  refine ⟨by unfold Addr; omega, by unfold Addr; omega, by unfold Addr; omega, ?_, ?_, ?_, by simp, ?_, ?_, fun l hl m => ?_⟩
  all_goals (simp only [List.mem_cons, List.not_mem_nil, or_false, not_or] at *; unfold Addr at *; omega)
theorem fresh3 {N c : Nat} (h : c ∈ (N + 5) :: (N + 3) :: (N + 4) :: [N, N + 1, N + 2]) : N ≤ c := by
  simp only [List.mem_cons, List.not_mem_nil, or_false] at h
  omega
def iZip3 (K : PySem.W.Frag) (ta : TA) : TI := fun σ H R => ta σ H fun vs H1 => ∃ b1 b2 b3 y1 y2 y3, vs = [.ref b1, .ref b2, .ref b3] ∧ SqL K H1 b1 y1 ∧ SqL K H1 b2 y2 ∧ SqL K H1 b3 y3 ∧ R (ItzN K [b1, b2, b3]) H1
theorem pi_zip3 {X : Cx} {e1 e2 e3 : Expr} {ta : TA} {p pos tpos : Pos} {elts : List Expr} {kk : Nat} (hg : Gl X "zip") (hm : X.mg "zip" = none) (ha : PA X [e1, e2, e3] ta)
    (hs : starEach [e1, e2, e3] X.env = (false, eval e1 X.env) :: starEach [e2, e3] X.env := by rfl) (hpl : (backTo pos (starEach [e2, e3] X.env)).any (·.1) = false := by rfl) :
    PI X (.Tuple elts kk tpos) (.Call (.Name "zip" p) [e1, e2, e3] [] pos) (iZip3 X.K ta) := by
  refine ⟨fun pins s σ H R I h => ?_⟩
  refine Call_ (ld_blt I hg hm PyProof.Rows.boot_zip (PyProof.Rows.callWith_type1 (thn (ha.run pos pins s σ H _ I h) fun us s1 ⟨vs, H1, I1, r1, q1⟩ => ?_) hs hpl))
  obtain ⟨b1, b2, b3, y1, y2, y3, ex, hq1, hq2, hq3, q⟩ := q1
  subst ex
  obtain rfl := valsRef [b1, b2, b3] r1
  obtain ⟨t1, rv1, p1, _⟩ := I1.list hq1
  have g1 : b1 < s1.heap.objs.size := p1.lt
  obtain ⟨t2, rv2, p2, _⟩ := I1.list hq2
  have g2 : b2 < s1.heap.objs.size := p2.lt
  obtain ⟨t3, rv3, p3, _⟩ := I1.list hq3
  have g3 : b3 < s1.heap.objs.size := p3.lt
  refine call_zip_3 p1.isList p2.isList p3.isList fun h' hz hTI hTO hi hk => wpAny_pyIter_zip hz ?_
  have I2 : Inv X pins σ H1 { s1 with heap := h' } := I1.kept (t' := s1.toks) hk
  have D := apart3 g1 g2 g3
  refine ⟨s1.heap.objs.size + 5, (s1.heap.objs.size + 5) :: (s1.heap.objs.size + 3) :: (s1.heap.objs.size + 4) :: [s1.heap.objs.size, s1.heap.objs.size + 1, s1.heap.objs.size + 2], _, _, H1, rfl, I2, turn_zipN D ⟨by simp, by simp⟩ rfl, ⟨hz, hTI, hTO, hi⟩, fun c hcm => ?_, q⟩
  have hle := fresh3 hcm
  exact I1.fpOk hle (I1.hok.fresh hle)
theorem typeCall_zip_4 (a1 a2 a3 a4 : Value) : checkTypeCall "zip" ⟨[a1, a2, a3, a4], []⟩ = pure () := by kernel_rfl
theorem newCall_zip_4 (a1 a2 a3 a4 : Value) : checkBuiltinCall "zip.__new__" ⟨[.type "zip", a1, a2, a3, a4], []⟩ = pure () := by kernel_rfl
theorem args_object_init_5 (o a1 a2 a3 a4 : Value) : argsOk "object.__init__" ⟨[o, a1, a2, a3, a4], []⟩ := by
  unfold argsOk; rw [signature?_of (id := "object.__init__") (n := ['_', '_', 't', 'i', 'n', 'i', '_', '_']) (o := ['t', 'c', 'e', 'j', 'b', 'o']) (by kernel_rfl) F.owner_object]; kernel_rfl
abbrev z4H1 (h : Heap) (l1 l2 l3 l4 : Addr) : Heap := h.push { cls := .type "list_iterator", data := .fields #[.ref l1, .int 0 0] }
abbrev z4H2 (h : Heap) (l1 l2 l3 l4 : Addr) : Heap := (z4H1 h l1 l2 l3 l4).push { cls := .type "list_iterator", data := .fields #[.ref l2, .int 0 0] }
abbrev z4H3 (h : Heap) (l1 l2 l3 l4 : Addr) : Heap := (z4H2 h l1 l2 l3 l4).push { cls := .type "list_iterator", data := .fields #[.ref l3, .int 0 0] }
abbrev z4H4 (h : Heap) (l1 l2 l3 l4 : Addr) : Heap := (z4H3 h l1 l2 l3 l4).push { cls := .type "list_iterator", data := .fields #[.ref l4, .int 0 0] }
abbrev z4H5 (h : Heap) (l1 l2 l3 l4 : Addr) : Heap := (z4H4 h l1 l2 l3 l4).push { cls := .type "tuple", data := .seq #[.ref h.objs.size, .ref (z4H1 h l1 l2 l3 l4).objs.size, .ref (z4H2 h l1 l2 l3 l4).objs.size, .ref (z4H3 h l1 l2 l3 l4).objs.size] }
abbrev z4H6 (h : Heap) (l1 l2 l3 l4 : Addr) : Heap := (z4H5 h l1 l2 l3 l4).push { cls := .type "tuple", data := .seq #[.none, .none, .none, .none] }
abbrev z4H7 (h : Heap) (l1 l2 l3 l4 : Addr) : Heap := (z4H6 h l1 l2 l3 l4).push { cls := .type "zip", data := .fields #[.none, .bool false, .bool false, .ref (z4H4 h l1 l2 l3 l4).objs.size, .ref (z4H5 h l1 l2 l3 l4).objs.size] }
theorem meets_zip_new_4 (l1 l2 l3 l4 : Addr) (x1 x2 x3 x4 : Array Value) :
    Meets (Builtin.«zip.__new__» ⟨[.type "zip", .ref l1, .ref l2, .ref l3, .ref l4], []⟩) (fun _ R s => s.heap.IsList l1 x1 ∧ s.heap.IsList l2 x2 ∧ s.heap.IsList l3 x3 ∧ s.heap.IsList l4 x4 ∧
      R (.ok (.ret (.ref (z4H6 s.heap l1 l2 l3 l4).objs.size))) { s with heap := z4H7 s.heap l1 l2 l3 l4 }) :=
  .of_wp fun prog w A R s h => by
    obtain ⟨hp, g, d, tk, os⟩ := s; obtain ⟨g1, g2, g3, g4, h⟩ := h
    have hsub := sub_zip
    have hL1 : Heap.IsList (Shared.heap ⟨hp, g, d, tk, os⟩) l1 x1 := g1
    have hL2 : Heap.IsList (Shared.heap ⟨(hp.push { cls := .type "list_iterator", data := .fields #[.ref l1, .int 0 0] }), g, d, tk, os⟩) l2 x2 := (Heap.IsList.push g2 _)
    have hL3 : Heap.IsList (Shared.heap ⟨((hp.push { cls := .type "list_iterator", data := .fields #[.ref l1, .int 0 0] }).push { cls := .type "list_iterator", data := .fields #[.ref l2, .int 0 0] }), g, d, tk, os⟩) l3 x3 := (Heap.IsList.push (Heap.IsList.push g3 _) _)
    have hL4 : Heap.IsList (Shared.heap ⟨(((hp.push { cls := .type "list_iterator", data := .fields #[.ref l1, .int 0 0] }).push { cls := .type "list_iterator", data := .fields #[.ref l2, .int 0 0] }).push { cls := .type "list_iterator", data := .fields #[.ref l3, .int 0 0] }), g, d, tk, os⟩) l4 x4 := (Heap.IsList.push (Heap.IsList.push (Heap.IsList.push g4 _) _) _)
    wp_walk using wpAny_pyIter_list hL1, wpAny_pyIter_list hL2, wpAny_pyIter_list hL3, wpAny_pyIter_list hL4
    exact ⟨_, rfl, h⟩
theorem call_zip_4 {prog : Program} {w : World} {A : Around} {E : Value → Shared → Prop} {s : Shared} {l1 l2 l3 l4 : Addr} {x1 x2 x3 x4 : Array Value} {Q : Value → Shared → Prop} (g1 : s.heap.IsList l1 x1) (g2 : s.heap.IsList l2 x2) (g3 : s.heap.IsList l3 x3) (g4 : s.heap.IsList l4 x4)
    (h : ∀ h', IsZip h' (s.heap.objs.size + 6) (s.heap.objs.size + 4) (s.heap.objs.size + 5) .none → IsSeqT h' (s.heap.objs.size + 4) ([s.heap.objs.size, (s.heap.objs.size + 1), (s.heap.objs.size + 2), (s.heap.objs.size + 3)].map Value.ref).toArray → (∃ a : Array Value, a.size = 4 ∧ IsSeqT h' (s.heap.objs.size + 5) a) → ItsAt h' (fun _ => 0) [s.heap.objs.size, (s.heap.objs.size + 1), (s.heap.objs.size + 2), (s.heap.objs.size + 3)] [l1, l2, l3, l4] →
      (∀ c o, s.heap.get? c = some o → h'.get? c = some o) → Q (.ref (s.heap.objs.size + 6)) { s with heap := h' }) :
    wpAny (model prog w) A (call (.type "zip") [.ref l1, .ref l2, .ref l3, .ref l4]) Q E s := by
  refine callType_new F.called_zip (by decide) (typeCall_zip_4 _ _ _ _) (newCall_zip_4 _ _ _ _) (fun obj => args_object_init_5 obj _ _ _ _) F.entry_zip_new
    (meets_zip_new_4 l1 l2 l3 l4 x1 x2 x3 x4) ⟨g1, g2, g3, g4, ?_⟩
  have z1 : (z4H1 s.heap l1 l2 l3 l4).objs.size = s.heap.objs.size + 1 := Heap.size_push ..
  have z2 : (z4H2 s.heap l1 l2 l3 l4).objs.size = s.heap.objs.size + 2 := by rw [Heap.size_push, z1]
  have z3 : (z4H3 s.heap l1 l2 l3 l4).objs.size = s.heap.objs.size + 3 := by rw [Heap.size_push, z2]
  have z4 : (z4H4 s.heap l1 l2 l3 l4).objs.size = s.heap.objs.size + 4 := by rw [Heap.size_push, z3]
  have z5 : (z4H5 s.heap l1 l2 l3 l4).objs.size = s.heap.objs.size + 5 := by rw [Heap.size_push, z4]
  have z6 : (z4H6 s.heap l1 l2 l3 l4).objs.size = s.heap.objs.size + 6 := by rw [Heap.size_push, z5]
  have z7 : (z4H7 s.heap l1 l2 l3 l4).objs.size = s.heap.objs.size + 7 := by rw [Heap.size_push, z6]
  have o1 : (z4H7 s.heap l1 l2 l3 l4).get? s.heap.objs.size = some _ := (Heap.get?_push_of_some _ (Heap.get?_push_of_some _ (Heap.get?_push_of_some _ (Heap.get?_push_of_some _ (Heap.get?_push_of_some _ (Heap.get?_push_of_some _ (Heap.get?_push_size _ rfl)))))))
  have o2 : (z4H7 s.heap l1 l2 l3 l4).get? (z4H1 s.heap l1 l2 l3 l4).objs.size = some _ := (Heap.get?_push_of_some _ (Heap.get?_push_of_some _ (Heap.get?_push_of_some _ (Heap.get?_push_of_some _ (Heap.get?_push_of_some _ (Heap.get?_push_size _ rfl))))))
  have o3 : (z4H7 s.heap l1 l2 l3 l4).get? (z4H2 s.heap l1 l2 l3 l4).objs.size = some _ := (Heap.get?_push_of_some _ (Heap.get?_push_of_some _ (Heap.get?_push_of_some _ (Heap.get?_push_of_some _ (Heap.get?_push_size _ rfl)))))
  have o4 : (z4H7 s.heap l1 l2 l3 l4).get? (z4H3 s.heap l1 l2 l3 l4).objs.size = some _ := (Heap.get?_push_of_some _ (Heap.get?_push_of_some _ (Heap.get?_push_of_some _ (Heap.get?_push_size _ rfl))))
  have o5 : (z4H7 s.heap l1 l2 l3 l4).get? (z4H4 s.heap l1 l2 l3 l4).objs.size = some _ := (Heap.get?_push_of_some _ (Heap.get?_push_of_some _ (Heap.get?_push_size _ rfl)))
  have o6 : (z4H7 s.heap l1 l2 l3 l4).get? (z4H5 s.heap l1 l2 l3 l4).objs.size = some _ := (Heap.get?_push_of_some _ (Heap.get?_push_size _ rfl))
  have o7 : (z4H7 s.heap l1 l2 l3 l4).get? (z4H6 s.heap l1 l2 l3 l4).objs.size = some _ := (Heap.get?_push_size _ rfl)
  rw [z1] at o2
  rw [z2] at o3
  rw [z3] at o4
  rw [z4] at o5
  rw [z5] at o6
  rw [z6] at o7
  rw [z1, z2, z3] at o5
  rw [z4, z5] at o7
  show _ ∧ _
  rw [z6]
  refine ⟨⟨_, o7, rfl⟩, h _ o7 o5 ⟨_, rfl, o6⟩ (fun m i l em el => ?_) fun c o x => (Heap.get?_push_of_some _ (Heap.get?_push_of_some _ (Heap.get?_push_of_some _ (Heap.get?_push_of_some _ (Heap.get?_push_of_some _ (Heap.get?_push_of_some _ (Heap.get?_push_of_some _ x)))))))⟩
  match m, em, el with
  | 0, em, el => cases em; cases el; exact ⟨_, o1, rfl, rfl⟩
  | 1, em, el => cases em; cases el; exact ⟨_, o2, rfl, rfl⟩
  | 2, em, el => cases em; cases el; exact ⟨_, o3, rfl, rfl⟩
  | 3, em, el => cases em; cases el; exact ⟨_, o4, rfl, rfl⟩
theorem apart4 {N b1 b2 b3 b4 : Nat} (g1 : b1 < N) (g2 : b2 < N) (g3 : b3 < N) (g4 : b4 < N) : ApartN (N + 6) (N + 4) (N + 5) [N, N + 1, N + 2, N + 3] [b1, b2, b3, b4] := by
  refine ⟨by unfold Addr; omega, by unfold Addr; omega, by unfold Addr; omega, ?_, ?_, ?_, by simp, ?_, ?_, fun l hl m => ?_⟩
  all_goals (simp only [List.mem_cons, List.not_mem_nil, or_false, not_or] at *; unfold Addr at *; omega)
theorem fresh4 {N c : Nat} (h : c ∈ (N + 6) :: (N + 4) :: (N + 5) :: [N, N + 1, N + 2, N + 3]) : N ≤ c := by
  simp only [List.mem_cons, List.not_mem_nil, or_false] at h
  omega
def iZip4 (K : PySem.W.Frag) (ta : TA) : TI := fun σ H R => ta σ H fun vs H1 => ∃ b1 b2 b3 b4 y1 y2 y3 y4, vs = [.ref b1, .ref b2, .ref b3, .ref b4] ∧ SqL K H1 b1 y1 ∧ SqL K H1 b2 y2 ∧ SqL K H1 b3 y3 ∧ SqL K H1 b4 y4 ∧ R (ItzN K [b1, b2, b3, b4]) H1
theorem pi_zip4 {X : Cx} {e1 e2 e3 e4 : Expr} {ta : TA} {p pos tpos : Pos} {elts : List Expr} {kk : Nat} (hg : Gl X "zip") (hm : X.mg "zip" = none) (ha : PA X [e1, e2, e3, e4] ta)
    (hs : starEach [e1, e2, e3, e4] X.env = (false, eval e1 X.env) :: starEach [e2, e3, e4] X.env := by rfl) (hpl : (backTo pos (starEach [e2, e3, e4] X.env)).any (·.1) = false := by rfl) :
    PI X (.Tuple elts kk tpos) (.Call (.Name "zip" p) [e1, e2, e3, e4] [] pos) (iZip4 X.K ta) := by
  refine ⟨fun pins s σ H R I h => ?_⟩
  refine Call_ (ld_blt I hg hm PyProof.Rows.boot_zip (PyProof.Rows.callWith_type1 (thn (ha.run pos pins s σ H _ I h) fun us s1 ⟨vs, H1, I1, r1, q1⟩ => ?_) hs hpl))
  obtain ⟨b1, b2, b3, b4, y1, y2, y3, y4, ex, hq1, hq2, hq3, hq4, q⟩ := q1
  subst ex
  obtain rfl := valsRef [b1, b2, b3, b4] r1
  obtain ⟨t1, rv1, p1, _⟩ := I1.list hq1
  have g1 : b1 < s1.heap.objs.size := p1.lt
  obtain ⟨t2, rv2, p2, _⟩ := I1.list hq2
  have g2 : b2 < s1.heap.objs.size := p2.lt
  obtain ⟨t3, rv3, p3, _⟩ := I1.list hq3
  have g3 : b3 < s1.heap.objs.size := p3.lt
  obtain ⟨t4, rv4, p4, _⟩ := I1.list hq4
  have g4 : b4 < s1.heap.objs.size := p4.lt
  refine call_zip_4 p1.isList p2.isList p3.isList p4.isList fun h' hz hTI hTO hi hk => wpAny_pyIter_zip hz ?_
  have I2 : Inv X pins σ H1 { s1 with heap := h' } := I1.kept (t' := s1.toks) hk
  have D := apart4 g1 g2 g3 g4
  refine ⟨s1.heap.objs.size + 6, (s1.heap.objs.size + 6) :: (s1.heap.objs.size + 4) :: (s1.heap.objs.size + 5) :: [s1.heap.objs.size, s1.heap.objs.size + 1, s1.heap.objs.size + 2, s1.heap.objs.size + 3], _, _, H1, rfl, I2, turn_zipN D ⟨by simp, by simp⟩ rfl, ⟨hz, hTI, hTO, hi⟩, fun c hcm => ?_, q⟩
  have hle := fresh4 hcm
  exact I1.fpOk hle (I1.hok.fresh hle)
/-- an item: a new tuple of what stands at the place -/
theorem walk_zipN {K : PySem.W.Frag} {as : List Addr} {L : List (List V)} {n : Nat} (hL : L.length = as.length) (h0 : 0 < L.length) (hn : ∀ xs ∈ L, n ≤ xs.length) (he : ∃ xs ∈ L, xs.length = n) :
    Walk (ItzN K as) n (fun H => ∀ (m : Nat) a xs, as[m]? = some a → L[m]? = some xs → SqL K H a xs) (fun i H v H' => ∃ T : Addr, v = .ref T ∧ H T = none ∧ H' = upd H T (.tup (L.map fun xs => xs.getD i .non))) := by
  have item : ∀ i, i < n → ∀ (m : Nat) xs, L[m]? = some xs → xs[i]? = (L.map fun xs => xs.getD i V.non)[m]? := fun i hi m xs em => by
    have h1 := hn xs (List.mem_of_getElem? em)
    rw [List.getElem?_map, em, Option.map_some, List.getD_eq_getElem?_getD, List.getElem?_eq_getElem (by omega)]
    rfl
  have at_ : ∀ {m : Nat} {a : Addr}, as[m]? = some a → ∃ xs, L[m]? = some xs := fun {m a} em => ⟨_, List.getElem?_eq_getElem (hL ▸ (List.getElem?_eq_some_iff.mp em).1)⟩
  refine ⟨fun i H hi q => ⟨L.map fun xs => xs.getD i .non, by rw [List.length_map, hL], fun m a em => ?_⟩, fun H q => ⟨fun a ha => ?_, ?_⟩, fun i H v H' hi q ⟨T, vs, e1, e2, e3, e4, e5⟩ => ⟨T, e1, e2, ?_⟩⟩
  · obtain ⟨xs, ex⟩ := at_ em
    exact ⟨xs, q m a xs em ex, item i hi m xs ex⟩
  · obtain ⟨m, em⟩ := List.mem_iff_getElem?.mp ha
    obtain ⟨xs, ex⟩ := at_ em
    exact ⟨xs, q m a xs em ex⟩
  · obtain ⟨xs, hx, e⟩ := he
    obtain ⟨m, em⟩ := List.mem_iff_getElem?.mp hx
    obtain ⟨a, ea⟩ : ∃ a, as[m]? = some a := ⟨_, List.getElem?_eq_getElem (hL ▸ (List.getElem?_eq_some_iff.mp em).1)⟩
    exact ⟨m, a, xs, ea, q m a xs ea em, by omega⟩
  · rw [e3]
    have : vs = L.map fun xs => xs.getD i .non := by
      refine List.ext_getElem? fun m => ?_
      cases em : as[m]? with
      | none =>
        have h1 := List.getElem?_eq_none_iff.mp em
        rw [List.getElem?_eq_none (by omega), List.getElem?_eq_none (by rw [List.length_map]; omega)]
      | some a =>
        obtain ⟨xs, ex⟩ := at_ em
        rw [← e5 m a xs em (q m a xs em ex), item i hi m xs ex]
    rw [this]
theorem r_izip3 {K : PySem.W.Frag} {tas : TA} {σ : L2.St} {H : Hp} {R : It → Hp → Prop} (h : tas σ H fun vs H1 => ∃ b1 b2 b3 y1 y2 y3, vs = [.ref b1, .ref b2, .ref b3] ∧ SqL K H1 b1 y1 ∧ SqL K H1 b2 y2 ∧ SqL K H1 b3 y3 ∧ R (ItzN K [b1, b2, b3]) H1) : iZip3 K tas σ H R := h
theorem r_izip4 {K : PySem.W.Frag} {tas : TA} {σ : L2.St} {H : Hp} {R : It → Hp → Prop} (h : tas σ H fun vs H1 => ∃ b1 b2 b3 b4 y1 y2 y3 y4, vs = [.ref b1, .ref b2, .ref b3, .ref b4] ∧ SqL K H1 b1 y1 ∧ SqL K H1 b2 y2 ∧ SqL K H1 b3 y3 ∧ SqL K H1 b4 y4 ∧ R (ItzN K [b1, b2, b3, b4]) H1) : iZip4 K tas σ H R := h
theorem r_exz3 {K : PySem.W.Frag} {H : Hp} {b1 b2 b3 : Addr} {y1 y2 y3 : List V} {P : Addr → Addr → Addr → Prop} (h1 : SqL K H b1 y1) (h2 : SqL K H b2 y2) (h3 : SqL K H b3 y3) (q : P b1 b2 b3) :
    ∃ c1 c2 c3 y1 y2 y3, [V.ref b1, V.ref b2, V.ref b3] = [.ref c1, .ref c2, .ref c3] ∧ SqL K H c1 y1 ∧ SqL K H c2 y2 ∧ SqL K H c3 y3 ∧ P c1 c2 c3 := ⟨b1, b2, b3, y1, y2, y3, rfl, h1, h2, h3, q⟩
theorem r_exz4 {K : PySem.W.Frag} {H : Hp} {b1 b2 b3 b4 : Addr} {y1 y2 y3 y4 : List V} {P : Addr → Addr → Addr → Addr → Prop} (h1 : SqL K H b1 y1) (h2 : SqL K H b2 y2) (h3 : SqL K H b3 y3) (h4 : SqL K H b4 y4) (q : P b1 b2 b3 b4) :
    ∃ c1 c2 c3 c4 y1 y2 y3 y4, [V.ref b1, V.ref b2, V.ref b3, V.ref b4] = [.ref c1, .ref c2, .ref c3, .ref c4] ∧ SqL K H c1 y1 ∧ SqL K H c2 y2 ∧ SqL K H c3 y3 ∧ SqL K H c4 y4 ∧ P c1 c2 c3 c4 := ⟨b1, b2, b3, b4, y1, y2, y3, y4, rfl, h1, h2, h3, h4, q⟩
set_option Elab.async false
set_option linter.all false
set_option maxRecDepth 100000
set_option maxHeartbeats 4000000
/-! ## list(zip(..)) -/
section
variable {prog : Program} {w : World} {A : Around} {E : Value → Shared → Prop} {s : Shared}
open PySem.W in
theorem zipN_held {z TI TO T : Addr} {f : Bool} {oT : Obj} {is ls : List Addr} {k : Nat} {ov : Nat → Option Value} {Q : Value → Shared → Prop} (hh : A.handled = none ∨ ∀ m, m < is.length → ov m ≠ none) (D : ApartN z TI TO is ls) (hn : 0 < is.length ∧ is.length ≤ 100) (hll : ls.length = is.length)
    (hz : IsZipHeld s.heap z TI TO T f) (hT : s.heap.get? T = some oT) (hTI : IsSeqT s.heap TI (is.map Value.ref).toArray)
    (hi : ItsAt s.heap (fun _ => k) is ls) (hl : ∀ m l, ls[m]? = some l → ∃ xs, s.heap.IsList l xs ∧ xs[k]? = ov m)
    (hQ : ∀ h' (vs : List Value), vs.length = is.length → (∀ m, m < is.length → ov m = vs[m]?) → IsZipHeld h' z TI TO T true → ItsAt h' (fun _ => k + 1) is ls → IsSeqT h' s.heap.objs.size vs.toArray → h'.objs.size = s.heap.objs.size + 1 →
      (∀ c o, c ≠ z → c ∉ is → s.heap.get? c = some o → h'.get? c = some o) → Q (.ref s.heap.objs.size) { s with heap := h' })
    (hE : ∀ h' e, (∃ m, m < is.length ∧ ov m = none) → (∀ c o, c ≠ z → c ∉ is → s.heap.get? c = some o → h'.get? c = some o) → (∃ o, h'.get? e = some o ∧ o.cls = .type "StopIteration") → E (.ref e) { s with heap := h' }) :
    wpAny (model prog w) A (Builtin.«zip.__next__» ⟨[.ref z], []⟩) (fun fin s' => ∃ v, fin = .done (.ret v) ∧ Q v s') E s := by
  show wpAny _ _ (field (.ref z) 2 >>= _) _ _ _
  refine wpAny_bind (wpAny_field hz rfl (x := .bool false) rfl ?_)
  show wpAny _ _ (field (.ref z) 3 >>= _) _ _ _
  refine wpAny_bind (wpAny_field hz rfl (x := .ref TI) rfl ?_)
  refine wpAny_bind (wpAny_seqItems hTI rfl ?_)
  have hemp : (is.map Value.ref).toArray.isEmpty = false := by
    cases is with
    | nil => exact absurd hn.1 (by simp)
    | cons _ _ => simp
  dsimp only
  rw [hemp]
  show wpAny _ _ (Builtin.SmallTypes.ownedTupleIsFree (.ref z) >>= _) _ _ _
  refine wpAny_bind (wpAny_tupleHeld_zip hz hT fun h₁ hz₁ hs₁ => ?_)
  simp only [Bool.false_eq_true, if_false]
  refine wpAny_bind ?_
  rw [← Array.forIn_toList]
  refine wpAny_forIn_list _ (fun rest b' s' => ∃ (j : Nat) (acc : Array Value) (h' : Heap), b' = (none, acc) ∧ j ≤ is.length ∧ rest = (is.map Value.ref).drop j ∧ s' = { s with heap := h' } ∧ acc.size = j ∧ (∀ m, m < j → ov m = acc[m]?) ∧ IsZipHeld h' z TI TO T true ∧
    ItsAt h' (fun m => if m < j then k + 1 else k) is ls ∧ h'.objs.size = s.heap.objs.size ∧ (∀ c o, c ≠ z → c ∉ is → s.heap.get? c = some o → h'.get? c = some o)) _ (fun x rest b' s' h => ?_) (fun b' s' h => ?_) _ _ ⟨0, #[], h₁, rfl, Nat.zero_le _, rfl, rfl, rfl, fun m hm => absurd hm (Nat.not_lt_zero m), hz₁, fun m i l em el => ?_, hs₁.1, fun c o c1 _ e => hs₁.extBut _ _ c1 e⟩
  · obtain ⟨j, acc, h₂, rfl, hjl, e, rfl, hacc, hov, hz₂, hi₂, hsz, hk⟩ := h
    have hj : j < is.length := by
      rcases Nat.lt_or_ge j is.length with c | c
      · exact c
      · rw [List.drop_eq_nil_of_le (by simpa using c)] at e
        cases e
    rw [List.drop_eq_getElem_cons (by simpa using hj), List.cons.injEq] at e
    obtain ⟨ex, er⟩ := e
    obtain ⟨i, ei⟩ : ∃ i, is[j]? = some i := ⟨_, List.getElem?_eq_getElem hj⟩
    obtain ⟨l, el⟩ : ∃ l, ls[j]? = some l := ⟨_, List.getElem?_eq_getElem (hll ▸ hj)⟩
    obtain rfl : x = Value.ref i := by
      rw [ex, List.getElem_map]
      congr 1
      exact (List.getElem?_eq_some_iff.mp ei).2
    have mi := List.mem_of_getElem? ei
    have ml := List.mem_of_getElem? el
    have hiz : i ≠ z := fun e => D.iz (e ▸ mi)
    have hlz : l ≠ z := fun e => D.lz (e ▸ ml)
    obtain ⟨xs, hxs, hxk⟩ := hl j l el
    have hxs₂ : h₂.IsList l xs := hxs.at fun o e => hk l o hlz (D.li l ml) e
    have hij : h₂.IsListIter i l k := by
      have := hi₂ j i l ei el
      dsimp only at this
      rwa [if_neg (Nat.lt_irrefl _)] at this
    refine wpAny_bind (wpAny_holding ?_)
    show wpAny _ _ (Builtin.SmallTypes.nextOf (.ref i) >>= _) _ _ _
    cases hv : ov j with
    | none =>
      rw [hv] at hxk
      have hh : A.handled = none := hh.elim id fun z => absurd hv (z j hj)
      refine wpAny_bind (wpAny_nextOf_list_end hh hij hxs₂ hxk fun h₃ e hs₃ he => ?_)
      exact hE h₃ e ⟨j, hj, hv⟩ (fun c o c1 c3 x => hs₃ _ _ (fun q => c3 (q ▸ mi)) (hk c o c1 c3 x)) he
    | some v =>
      rw [hv] at hxk
      refine wpAny_bind (wpAny_nextOf_list_item hij hxs₂ hxk fun h₃ hij₃ hs₃ => wpAny_pure ?_)
      refine wpAny_pure ⟨j + 1, acc.push v, h₃, rfl, hj, er, rfl, by rw [Array.size_push, hacc], fun m hm => ?_, hs₃.extBut _ _ (Ne.symm hiz) hz₂, fun m i' l' em el' => ?_, by rw [hs₃.1, hsz], fun c o c1 c3 x => hs₃.extBut _ _ (fun q => c3 (q ▸ mi)) (hk c o c1 c3 x)⟩
      · by_cases c : m = j
        · subst c
          rw [hv, ← hacc, Array.getElem?_push_size]
        · rw [Array.getElem?_push_lt (by omega), ← Array.getElem?_eq_getElem]
          exact hov m (by omega)
      · by_cases c : m = j
        · subst c
          rw [ei] at em
          rw [el] at el'
          obtain rfl := Option.some.inj em
          obtain rfl := Option.some.inj el'
          show Heap.IsListIter _ _ _ (if _ then _ else _)
          rw [if_pos (Nat.lt_succ_self _)]
          exact hij₃
        · have e1 : (if m < j + 1 then k + 1 else k) = if m < j then k + 1 else k := by
            by_cases c2 : m < j
            · rw [if_pos c2, if_pos (by omega)]
            · rw [if_neg c2, if_neg (by omega)]
          show Heap.IsListIter _ _ _ (if _ then _ else _)
          rw [e1]
          have ne : i' ≠ i := fun e => by
            subst e
            obtain ⟨h1, e1⟩ := List.getElem?_eq_some_iff.mp em
            obtain ⟨h2, e2⟩ := List.getElem?_eq_some_iff.mp ei
            exact c ((List.getElem_inj D.nd).mp (e1.trans e2.symm))
          exact (hi₂ m i' l' em el').extBut hs₃.extBut ne
  · obtain ⟨j, acc, h₂, rfl, hjl, e, rfl, hacc, hov, hz₂, hi₂, hsz, hk⟩ := h
    have hj : j = is.length := by
      rcases Nat.lt_or_ge j is.length with c | c
      · rw [List.drop_eq_getElem_cons (by simpa using c)] at e
        cases e
      · omega
    subst hj
    show wpAny _ _ (newTuple acc.toList >>= _) _ _ _
    refine wpAny_bind (wpAny_newTuple ?_ (by rw [Array.length_toList, hacc]; exact Nat.le_trans hn.2 (by decide)))
    refine wpAny_pure ⟨_, rfl, ?_⟩
    show Q (.ref h₂.objs.size) _
    have hT : IsSeqT (h₂.push { cls := .type "tuple", data := .seq acc.toList.toArray }) h₂.objs.size acc.toList.toArray := Heap.get?_push_size _ rfl
    have hz4 : (h₂.push { cls := .type "tuple", data := .seq acc.toList.toArray }).objs.size = h₂.objs.size + 1 := Heap.size_push ..
    rw [hsz] at hT hz4 ⊢
    refine hQ _ acc.toList (by rw [Array.length_toList, hacc]) (fun m hm => by rw [hov m hm, Array.getElem?_toList]) (Heap.get?_push_of_some _ hz₂) (fun m i l em el => ?_) hT hz4 fun c o c1 c3 e => Heap.get?_push_of_some _ (hk c o c1 c3 e)
    have := hi₂ m i l em el
    dsimp only at this
    rw [if_pos (List.getElem?_eq_some_iff.mp em).1] at this
    exact this.at fun o e => Heap.get?_push_of_some _ e
  · show Heap.IsListIter _ _ _ (if _ then _ else _)
    rw [if_neg (Nat.not_lt_zero m)]
    exact (hi m i l em el).extBut hs₁.extBut fun e => D.iz (e ▸ List.mem_of_getElem? em)

open PySem.W in
theorem pyNext_zipN_held {z TI TO T : Addr} {f : Bool} {oT : Obj} {is ls : List Addr} {k : Nat} {ov : Nat → Option Value} {Q : Option Value → Shared → Prop} (hh : A.handled = none ∨ ∀ m, m < is.length → ov m ≠ none) (D : ApartN z TI TO is ls) (hn : 0 < is.length ∧ is.length ≤ 100) (hll : ls.length = is.length)
    (hz : IsZipHeld s.heap z TI TO T f) (hT : s.heap.get? T = some oT) (hTI : IsSeqT s.heap TI (is.map Value.ref).toArray)
    (hi : ItsAt s.heap (fun _ => k) is ls) (hl : ∀ m l, ls[m]? = some l → ∃ xs, s.heap.IsList l xs ∧ xs[k]? = ov m)
    (hQ : ∀ h' (vs : List Value), vs.length = is.length → (∀ m, m < is.length → ov m = vs[m]?) → IsZipHeld h' z TI TO T true → ItsAt h' (fun _ => k + 1) is ls → IsSeqT h' s.heap.objs.size vs.toArray → h'.objs.size = s.heap.objs.size + 1 →
      (∀ c o, c ≠ z → c ∉ is → s.heap.get? c = some o → h'.get? c = some o) → Q (some (.ref s.heap.objs.size)) { s with heap := h' })
    (hE : ∀ h', (∃ m, m < is.length ∧ ov m = none) → (∀ c o, c ≠ z → c ∉ is → s.heap.get? c = some o → h'.get? c = some o) → Q none { s with heap := h' }) :
    wpAny (model prog w) A (pyNext (.ref z)) Q E s := by
  have hTy : s.TypeIs (.ref z) "zip" := ⟨_, hz, rfl⟩
  unfold pyNext
  refine wpAny_bind (wpAny_attempt (wpAny_callSpecial?_slot (name := Str.ofString "__next__") hTy F.slot_zip_next
    (wpAny_call_entry F.slot_zip_next hTy F.entry_zip_next (zipN_held hh D hn hll hz hT hTI hi hl (fun h' vs a0 a1 a2 a5 a6 a7 a8 => wpAny_pure (hQ h' vs a0 a1 a2 a5 a6 a7 a8)) fun h' e hm hk he => ?_) (F.args_zip_next_1 _))))
  obtain ⟨o, ho, hc⟩ := he
  refine wpAny_bind (wpAny_isInstance (T := "StopIteration") (b := true) ⟨o, ho, hc⟩ isSubtype_stop ?_)
  exact wpAny_pure (hE _ hm hk)
end
/-- the iterator while its tuples are kept, a list at S being filled -/
def ZlSt (h : Heap) (z TI TO S : Addr) (is as : List Addr) (i : Nat) : Prop :=
  IsSeqT h TI (is.map Value.ref).toArray ∧ ItsAt h (fun _ => i) is as ∧ ((IsZip h z TI TO .none ∧ ∃ a : Array Value, a.size = is.length ∧ IsSeqT h TO a) ∨ ∃ T f oT, PySem.IsZipHeld h z TI TO T f ∧ h.get? T = some oT ∧ T ≠ z ∧ T ∉ is ∧ T ≠ S)
theorem ZlSt.keep {h h' : Heap} {z TI TO S : Addr} {is as : List Addr} {i : Nat} (x : ZlSt h z TI TO S is as i) (n : z ≠ S ∧ TI ≠ S ∧ TO ≠ S ∧ S ∉ is) (k : ∀ c o, c ≠ S → h.get? c = some o → h'.get? c = some o) : ZlSt h' z TI TO S is as i := by
  obtain ⟨hTI, hi, hz⟩ := x
  obtain ⟨n1, n2, n3, n4⟩ := n
  refine ⟨k _ _ n2 hTI, fun m i l em el => (hi m i l em el).at fun o e => k _ o (fun q => n4 (q ▸ List.mem_of_getElem? em)) e, ?_⟩
  rcases hz with ⟨hz, a, ha, hTO⟩ | ⟨T, f, oT, hz, hT, r1, r2, r3⟩
  · exact .inl ⟨k _ _ n1 hz, a, ha, k _ _ n3 hTO⟩
  · exact .inr ⟨T, f, oT, k _ _ n1 hz, k _ _ r3 hT, r1, r2, r3⟩
/-- one tuple more, or the end -/
theorem zl_next {X : Cx} {pins : List (Addr × Obj)} {σ : L2.St} {H : Hp} {s : Shared} {A : Around} {E : Value → Shared → Prop} {z TI TO S : Addr} {is as : List Addr} {i : Nat} {Q : Option Value → Shared → Prop} (hh : A.handled = none)
    (D : ApartN z TI TO is as) (hn : 0 < is.length ∧ is.length ≤ 100) (hll : as.length = is.length) (hS : S < s.heap.objs.size) (I : Inv X pins σ H s) (hf : ∀ b ∈ z :: TI :: TO :: is, FpOk X pins H b) (st : ZlSt s.heap z TI TO S is as i)
    (hl : ∀ (m : Nat) a, as[m]? = some a → ∃ xs, SqL X.K H a xs)
    (item : ∀ (vs : List V) (h' : Heap), vs.length = as.length → (∀ (m : Nat) a xs, as[m]? = some a → SqL X.K H a xs → xs[i]? = vs[m]?) → H s.heap.objs.size = none → Inv X pins σ (upd H s.heap.objs.size (.tup vs)) { s with heap := h' } → ZlSt h' z TI TO S is as (i + 1) → (∀ c o, c ∉ z :: TI :: TO :: is → s.heap.get? c = some o → h'.get? c = some o) →
      Q (some (.ref s.heap.objs.size)) { s with heap := h' })
    (done : ∀ h', (∃ (m : Nat) (a : Addr) (xs : List V), as[m]? = some a ∧ SqL X.K H a xs ∧ xs.length ≤ i) → Inv X pins σ H { s with heap := h' } → Q none { s with heap := h' }) :
    wpAny (model X.prog X.w) A (pyNext (.ref z)) Q E s := by
  obtain ⟨hTI, hi, hz⟩ := st
  have lists : ∀ m l, as[m]? = some l → ∃ xs : Array Value, s.heap.IsList l xs ∧ xs[i]? = ovOf s.heap as i m := fun m l el => by
    obtain ⟨xs, hq⟩ := hl m l el
    obtain ⟨its, rv, p, _⟩ := I.list hq
    exact ⟨_, p.isList, ovOf_is el p.isList⟩
  have small : ∀ {c : Addr} {o : Obj}, s.heap.get? c = some o → s.heap.objs.size ≠ c := fun e => Nat.ne_of_gt (Heap.lt_size e)
  have nis : s.heap.objs.size ∉ is := fun m => by
    obtain ⟨j, ej⟩ := List.mem_iff_getElem?.mp m
    have lt := (List.getElem?_eq_some_iff.mp ej).1
    obtain ⟨o1, e1, _⟩ := hi j _ _ ej (List.getElem?_eq_getElem (hll ▸ lt))
    exact small e1 rfl
  have fin : ∀ (h' : Heap) (us : List Value), us.length = is.length → (∀ m, m < is.length → ovOf s.heap as i m = us[m]?) → IsSeqT h' s.heap.objs.size us.toArray → h'.objs.size = s.heap.objs.size + 1 → (∀ c o, c ∉ z :: TI :: TO :: is → s.heap.get? c = some o → h'.get? c = some o) →
      ZlSt h' z TI TO S is as (i + 1) → Q (some (.ref s.heap.objs.size)) { s with heap := h' } := fun h' us hul hov hT hsz hk st' => by
    have get : ∀ m, m < as.length → ∃ v u, us[m]? = some u ∧ RelV v u ∧ ∀ a xs, as[m]? = some a → SqL X.K H a xs → xs[i]? = some v := fun m hm => by
      obtain ⟨a, ea⟩ : ∃ a, as[m]? = some a := ⟨_, List.getElem?_eq_getElem hm⟩
      obtain ⟨xs, hq⟩ := hl m a ea
      obtain ⟨its, rv, p, _⟩ := I.list hq
      have e1 := hov m (by omega)
      rw [← ovOf_is ea p.isList] at e1
      have hlt : m < us.length := by omega
      have e2 : its[i]? = us[m]? := by simpa using e1
      rw [List.getElem?_eq_getElem hlt] at e2
      have hi1 : i < its.length := (List.getElem?_eq_some_iff.mp e2).1
      have hi2 : i < xs.length := by rw [rv.length]; exact hi1
      obtain ⟨u, hu, ru⟩ := rv.get (List.getElem?_eq_getElem hi2)
      rw [e2] at hu
      refine ⟨xs[i], u, by rw [List.getElem?_eq_getElem hlt]; exact hu, ru, fun a' xs' ea' hq' => ?_⟩
      rw [ea] at ea'
      cases ea'
      rw [I.list_inj hq' hq]
      exact List.getElem?_eq_getElem hi2
    let vs : List V := (List.range as.length).map fun m => if h : m < as.length then (get m h).choose else .non
    have hvl : vs.length = as.length := by simp [vs]
    have vm : ∀ m (h : m < as.length), vs[m]? = some (get m h).choose := fun m h => by
      simp only [vs, List.getElem?_map, List.getElem?_range h, Option.map_some, dif_pos h]
    have rel : Vals vs us := vals_of (by omega) fun m v u e1 e2 => by
      have lt : m < as.length := by rw [← hvl]; exact (List.getElem?_eq_some_iff.mp e1).1
      rw [vm m lt] at e1
      cases e1
      obtain ⟨u', eu, r, _⟩ := (get m lt).choose_spec
      rw [eu] at e2
      cases e2
      exact r
    have new : ObjOk X.prog X.w (upd H s.heap.objs.size (.tup vs)) h' s.heap.objs.size (.tup vs) :=
      ⟨Nat.le_trans (show vs.length ≤ 100 by omega) (by decide), us, rel, ⟨_, hT, rfl, _, rfl⟩⟩
    have I1 : Inv X pins σ (upd H s.heap.objs.size (.tup vs)) { s with heap := h' } :=
      I.turnedNew (t' := s.toks) (ch := z :: TI :: TO :: is) hk hf (Nat.le_refl _) new
    refine item vs h' hvl (fun m a xs ea hq => ?_) (I.hok.fresh (Nat.le_refl _)) I1 st' hk
    have lt := (List.getElem?_eq_some_iff.mp ea).1
    rw [vm m lt]
    obtain ⟨_, _, _, g⟩ := (get m lt).choose_spec
    exact g a xs ea hq
  have stop : (∃ m, m < is.length ∧ ovOf s.heap as i m = none) → ∃ (m : Nat) (a : Addr) (xs : List V), as[m]? = some a ∧ SqL X.K H a xs ∧ xs.length ≤ i := fun ⟨m, hm, e⟩ => by
    obtain ⟨a, ea⟩ : ∃ a, as[m]? = some a := ⟨_, List.getElem?_eq_getElem (hll ▸ hm)⟩
    obtain ⟨xs, hq⟩ := hl m a ea
    obtain ⟨its, rv, p, _⟩ := I.list hq
    rw [← ovOf_is ea p.isList] at e
    have := rv.length
    refine ⟨m, a, xs, ea, hq, ?_⟩
    have := Array.getElem?_eq_none_iff.mp e
    simp at this
    omega
  rcases hz with ⟨hz, hTO⟩ | ⟨T, f, oT, hz, hT, r1, r2, r3⟩
  · refine pyNext_zipN (.inl hh) D hn hll hz hTI hTO hi lists (fun h' us hul hov z' TO' hi' hT hsz hk => ?_) fun h' hm hk => done h' (stop hm) (I.turnedL (t' := s.toks) (ch := z :: TI :: TO :: is) (fun c o hb q =>
      hk c o (fun q' => hb (by simp [q'])) (fun q' => hb (by simp [q'])) (fun q' => hb (by simp [q'])) q) hf)
    refine fin h' us hul hov hT hsz (fun c o hb q => hk c o (fun q' => hb (by simp [q'])) (fun q' => hb (by simp [q'])) (fun q' => hb (by simp [q'])) q) ⟨hk _ _ D.TIz D.TITO D.iTI hTI, hi', .inr ⟨_, false, _, z', hT, small hz, nis, Nat.ne_of_gt hS⟩⟩
  · refine pyNext_zipN_held (.inl hh) D hn hll hz hT hTI hi lists (fun h' us hul hov z' hi' hT' hsz hk => ?_) fun h' hm hk => done h' (stop hm) (I.turnedL (t' := s.toks) (ch := z :: TI :: TO :: is) (fun c o hb q =>
      hk c o (fun q' => hb (by simp [q'])) (fun q' => hb (by simp [q'])) q) hf)
    exact fin h' us hul hov hT' hsz (fun c o hb q => hk c o (fun q' => hb (by simp [q'])) (fun q' => hb (by simp [q'])) q) ⟨hk _ _ D.TIz D.iTI hTI, hi', .inr ⟨T, true, oT, z', hk _ _ r1 r2 hT, r1, r2, r3⟩⟩

/-- what list(zip(..)) of lists L makes: a list at q of tuples at ts -/
structure ZOut (H1 H' : Hp) (q : Addr) (L : List (List V)) (n : Nat) (ts : List Addr) : Prop where
  new : H1 q = none
  len : ts.length = n
  lst : H' q = some (.lst (ts.map V.ref))
  nq : q ∉ ts
  nd : ts.Nodup
  tup : ∀ (j : Nat) t, ts[j]? = some t → H1 t = none ∧ H' t = some (.tup (L.map fun xs => xs.getD j V.non))
  fr : Fr [] H1 H'
theorem zl_loop {X : Cx} {pins : List (Addr × Obj)} {σ : L2.St} {z TI TO S : Addr} {is as : List Addr} {A1 : Around} {R : Result → Shared → Prop} {L : List (List V)} {n : Nat} {H0 : Hp} (hh : A1.handled = none) (D : ApartN z TI TO is as) (hi : 0 < is.length ∧ is.length ≤ 100) (hll : as.length = is.length)
    (hL : L.length = as.length) (hn1 : ∀ xs ∈ L, n ≤ xs.length) (hn2 : ∃ xs ∈ L, xs.length = n) (hnn : n ≤ 100000) (low : ∀ b ∈ z :: TI :: TO :: is, b < S) (sq : ∀ (m : Nat) a xs, as[m]? = some a → L[m]? = some xs → SqL X.K H0 a xs)
    (hR : ∀ (ts : List Addr) H' s', ZOut H0 H' S L n ts → Inv X pins σ H' s' → R (.ok (.ret .none)) s') :
    ∀ (k i : Nat) (ts : List Addr) (H : Hp) (s : Shared), n - i = k → i ≤ n → Inv X pins σ H s → ZOut H0 H S L i ts → ZlSt s.heap z TI TO S is as i → (∀ b ∈ z :: TI :: TO :: is, FpOk X pins H b) → codeAny (model X.prog X.w) A1 (.builtin "list.extend.loop" ⟨[.ref S, .ref z, .none], []⟩) R s := by
  have at_ : ∀ {m : Nat} {a : Addr}, as[m]? = some a → ∃ xs, L[m]? = some xs := fun {m a} em => ⟨_, List.getElem?_eq_getElem (hL ▸ (List.getElem?_eq_some_iff.mp em).1)⟩
  have apart : z ≠ S ∧ TI ≠ S ∧ TO ≠ S ∧ S ∉ is := ⟨Nat.ne_of_lt (low z (by simp)), Nat.ne_of_lt (low TI (by simp)), Nat.ne_of_lt (low TO (by simp)), fun m => Nat.lt_irrefl _ (low S (by simp [m]))⟩
  intro k
  induction k with
  | zero =>
    intro i ts H s hk hin I o st hf
    have e : i = n := by omega
    subst e
    obtain ⟨z1, its, kk, r2, hl1, e⟩ := I.lstM o.lst
    refine codeAny_builtin PySem.F.entry_extend_loop ?_
    rw [Around.under_plainId PySem.F.plain_extend_loop _]
    show wpAny _ A1.in1 (pyNext (.ref z) >>= _) _ _ _
    refine wpAny_bind (zl_next (A := A1.in1) hh D hi hll (Heap.lt_size e) I hf st (fun m a em => ?_) (fun vs h' hvl g _ _ _ _ => ?_) fun h' _ I' => wpAny_pure (hR ts H _ o I'))
    · obtain ⟨xs, ex⟩ := at_ em
      exact ⟨xs, o.fr.sql (sq m a xs em ex) fun z => nomatch z⟩
    · obtain ⟨xs, hx, e⟩ := hn2
      obtain ⟨m, em⟩ := List.mem_iff_getElem?.mp hx
      obtain ⟨a, ea⟩ : ∃ a, as[m]? = some a := ⟨_, List.getElem?_eq_getElem (hL ▸ (List.getElem?_eq_some_iff.mp em).1)⟩
      have h1 := g m a xs ea (o.fr.sql (sq m a xs ea em) fun z => nomatch z)
      have lt := (List.getElem?_eq_some_iff.mp ea).1
      rw [List.getElem?_eq_none (by omega), List.getElem?_eq_getElem (by omega)] at h1
      cases h1
  | succ k ih =>
    intro i ts H s hk hin I o st hf
    have hlt : i < n := by omega
    obtain ⟨z1, its, kk, r2, hl1, e⟩ := I.lstM o.lst
    refine codeAny_builtin PySem.F.entry_extend_loop ?_
    rw [Around.under_plainId PySem.F.plain_extend_loop _]
    show wpAny _ A1.in1 (pyNext (.ref z) >>= _) _ _ _
    refine wpAny_bind (zl_next (A := A1.in1) hh D hi hll (Heap.lt_size e) I hf st (fun m a em => ?_) (fun vs h' hvl g hnew I' st' hk' => ?_) fun h' stop _ => ?_)
    · obtain ⟨xs, ex⟩ := at_ em
      exact ⟨xs, o.fr.sql (sq m a xs em ex) fun z => nomatch z⟩
    · have hS : S ≠ s.heap.objs.size := Nat.ne_of_lt (Heap.lt_size e)
      have lst' : (upd H s.heap.objs.size (.tup vs)) S = some (.lst (ts.map V.ref)) := by
        rw [upd_ne hS]
        exact o.lst
      obtain ⟨z3, its3, k3, r3, hl3, e3⟩ := I'.lstM lst'
      show wpAny _ A1.in1 (updateSeq S (·.push (.ref s.heap.objs.size)) >>= _) _ _ _
      have tl := o.len
      have lim : n ≤ sizeLine := Nat.le_trans hnn (by decide)
      have its3l : its3.length = i := by rw [← hl3, List.length_map, tl]
      refine wpAny_bind (wpAny_updateSeq e3 rfl (wpAny_pure ⟨plainId_quiet PySem.F.plain_extend_loop _, ?_⟩) (by rw [List.size_toArray]; omega) (by show (its3.toArray.push _).size ≤ sizeLine + 1; rw [Array.size_push, List.size_toArray]; omega))
      have I3 := I'.lset (its' := its3 ++ [.ref s.heap.objs.size]) (ys := (ts ++ [s.heap.objs.size]).map V.ref) (t' := s.toks) (f := (·.push (Value.ref s.heap.objs.size))) lst' e3 (by simp) (by rw [List.map_append]; exact r3.append (.cons rfl .nil)) (by rw [List.length_map, List.length_append, List.length_singleton]; omega)
      have H0new : H0 s.heap.objs.size = none := by
        cases c : H0 s.heap.objs.size with
        | none => rfl
        | some u =>
          rw [o.fr _ _ (fun z => nomatch z) c] at hnew
          cases hnew
      have vsl : vs = L.map fun xs => xs.getD i V.non := by
        refine List.ext_getElem? fun m => ?_
        cases em : as[m]? with
        | none =>
          have h1 := List.getElem?_eq_none_iff.mp em
          rw [List.getElem?_eq_none (by omega), List.getElem?_eq_none (by rw [List.length_map]; omega)]
        | some a =>
          obtain ⟨xs, ex⟩ := at_ em
          rw [← g m a xs em (o.fr.sql (sq m a xs em ex) fun z => nomatch z), List.getElem?_map, ex, Option.map_some]
          have h1 := hn1 xs (List.mem_of_getElem? ex)
          rw [List.getD_eq_getElem?_getD, List.getElem?_eq_getElem (by omega)]
          rfl
      refine ih (i + 1) (ts ++ [s.heap.objs.size]) _ _ (by omega) hlt I3 ⟨o.new, by rw [List.length_append, tl]; rfl, upd_same, fun m => ?_, ?_, fun j t ht => ?_, ?_⟩ (st'.keep apart fun c u hc hu => (Heap.get?_update_other _ _ (Ne.symm hc)).trans hu) fun b hb => ?_
      · rcases List.mem_append.mp m with m | m
        · exact o.nq m
        · exact hS (List.mem_singleton.mp m)
      · refine List.nodup_append.mpr ⟨o.nd, List.nodup_cons.mpr ⟨(fun z => nomatch z), List.nodup_nil⟩, fun a ha b hb e => ?_⟩
        rw [List.mem_singleton.mp hb] at e
        subst e
        obtain ⟨j, hj⟩ := List.mem_iff_getElem?.mp ha
        have := (o.tup j _ hj).2
        rw [hnew] at this
        cases this
      · rcases Nat.lt_trichotomy j ts.length with h1 | h1 | h1
        · rw [List.getElem?_append_left h1] at ht
          obtain ⟨t1, t2⟩ := o.tup j t ht
          refine ⟨t1, ?_⟩
          have ne1 : t ≠ S := fun e => o.nq (e ▸ List.mem_of_getElem? ht)
          have ne2 : t ≠ s.heap.objs.size := fun e => by
            rw [e, hnew] at t2
            cases t2
          rw [upd_ne ne1, upd_ne ne2]
          exact t2
        · subst h1
          have e5 : s.heap.objs.size = t := by simpa using ht
          subst e5
          refine ⟨H0new, ?_⟩
          rw [upd_ne hS.symm, upd_same, vsl, tl]
        · have hnone : (ts ++ [s.heap.objs.size])[j]? = none := List.getElem?_eq_none (by rw [List.length_append, List.length_singleton]; omega)
          rw [hnone] at ht
          cases ht
      · exact fun b u hb hu => by
          have h1 := o.fr b u hb hu
          rw [upd_ne (ne_of_none hu o.new), upd_ne (ne_of_none h1 hnew)]
          exact h1
      · obtain ⟨f1, f2⟩ := hf b hb
        refine ⟨?_, f2⟩
        have bS : b ≠ S := fun q => by
          subst q
          rw [o.lst] at f1
          cases f1
        have bn : b ≠ s.heap.objs.size := Nat.ne_of_lt (Nat.lt_trans (low b hb) (Heap.lt_size e))
        rw [upd_ne bS, upd_ne bn]
        exact f1
    · obtain ⟨m, a, xs, ea, hq, hle⟩ := stop
      obtain ⟨xs', ex⟩ := at_ ea
      have h2 := hn1 xs' (List.mem_of_getElem? ex)
      rw [I.list_inj hq (o.fr.sql (sq m a xs' ea ex) fun z => nomatch z)] at hle
      omega

theorem zl_nolen : typeLookup (.type "zip") "__len__" = pure none := am_miss_of_fast (by decide +kernel)
theorem zl_nohint : typeLookup (.type "zip") "__length_hint__" = pure none := am_miss_of_fast (by decide +kernel)
/-- list(z), z a zip that has not begun -/
theorem list_of_zip {X : Cx} {pins : List (Addr × Obj)} {σ : L2.St} {H : Hp} {s : Shared} {z TI TO : Addr} {is as : List Addr} {L : List (List V)} {n : Nat} {Q : VK} (hc : X.calm = true) (D : ApartN z TI TO is as) (hi : 0 < is.length ∧ is.length ≤ 100) (hll : as.length = is.length)
    (hL : L.length = as.length) (hn1 : ∀ xs ∈ L, n ≤ xs.length) (hn2 : ∃ xs ∈ L, xs.length = n) (hnn : n ≤ 100000) (sq : ∀ (m : Nat) a xs, as[m]? = some a → L[m]? = some xs → SqL X.K H a xs)
    (I : Inv X pins σ H s) (hz : IsZip s.heap z TI TO .none) (hTI : IsSeqT s.heap TI (is.map Value.ref).toArray) (hTO : ∃ a : Array Value, a.size = is.length ∧ IsSeqT s.heap TO a) (hit : ItsAt s.heap (fun _ => 0) is as) (hf : ∀ b ∈ z :: TI :: TO :: is, FpOk X pins H b)
    (q : ∀ H' p ts, ZOut H H' p L n ts → Q (.ref p) H') : wpAny (model X.prog X.w) X.A (call (.type "list") [.ref z]) (EP X pins σ Q) X.xe s := by
  refine callType_codes (Q₁ := fun obj s₁ => obj = .ref s.heap.objs.size ∧ s₁ = { s with heap := s.heap.push { cls := .type "list", data := .seq #[] } }) PySem.F.called_list (PySem.F.typeCall_list_1 _) PySem.F.entry_list_init
    (code_list_new _ ⟨rfl, rfl⟩) fun obj s₁ h₁ => ?_
  obtain ⟨rfl, rfl⟩ := h₁
  have hS : (s.heap.push { cls := .type "list", data := .seq #[] }).get? s.heap.objs.size = some { cls := .type "list", data := .seq #[] } := Heap.get?_push_size _ rfl
  refine ⟨⟨_, hS, rfl⟩, PySem.F.args_list_init_2 _ _, ?_⟩
  have fr : H s.heap.objs.size = none := I.hok.fresh (Nat.le_refl _)
  have I1 : Inv X pins σ (upd H s.heap.objs.size (.lst [])) { s with heap := s.heap.push { cls := .type "list", data := .seq #[] } } := I.lnew (its := []) (t' := s.toks) .nil (Nat.zero_le _)
  show wpAny _ _ (do let old ← Builtin.List.listItems (.ref s.heap.objs.size); Builtin.List.listUpdate (.ref s.heap.objs.size) (fun _ => #[]); letGo old.toList.reverse; Builtin.List.listExtendWith (.ref s.heap.objs.size) (.ref z) .none) _ _ _
  refine wpAny_bind ?_
  unfold Builtin.List.listItems
  refine wpAny_bind (wpAny_seqItems hS rfl (wpAny_pure ?_))
  show wpAny _ _ (updateSeq s.heap.objs.size (fun _ => #[]) >>= fun _ => letGo (#[] : Array Value).toList.reverse >>= fun _ => Builtin.List.listExtendWith (.ref s.heap.objs.size) (.ref z) .none) _ _ _
  refine wpAny_bind (wpAny_updateSeq hS rfl ?_)
  have I2 := I1.lset (f := fun _ => #[]) (its := []) (its' := []) (ys := []) (t' := s.toks) upd_same hS rfl .nil (Nat.zero_le _)
  rw [upd_upd] at I2
  refine wpAny_bind (wpAny_letGo ?_)
  have hzl : z < s.heap.objs.size := Heap.lt_size hz
  have hSz : s.heap.objs.size ≠ z := Nat.ne_of_gt hzl
  have up : ∀ c o, c ≠ s.heap.objs.size → s.heap.get? c = some o → ((s.heap.push { cls := .type "list", data := .seq #[] }).update s.heap.objs.size (Obj.mapSeq fun _ => #[])).get? c = some o := fun c o hc e =>
    (Heap.get?_update_other _ _ (Ne.symm hc)).trans (Heap.get?_push_of_some _ e)
  have old : ∀ c o, s.heap.get? c = some o → ((s.heap.push { cls := .type "list", data := .seq #[] }).update s.heap.objs.size (Obj.mapSeq fun _ => #[])).get? c = some o := fun c o e => up c o (Nat.ne_of_lt (Heap.lt_size e)) e
  have ty : ∀ tk, Shared.TypeIs { s with heap := (s.heap.push { cls := .type "list", data := .seq #[] }).update s.heap.objs.size (Obj.mapSeq fun _ => #[]), toks := tk } (.ref z) "zip" := fun _ => ⟨_, old z _ hz, rfl⟩
  have low : ∀ b ∈ z :: TI :: TO :: is, b < s.heap.objs.size := fun b hb => by
    rcases List.mem_cons.mp hb with rfl | hb
    · exact hzl
    rcases List.mem_cons.mp hb with rfl | hb
    · exact Heap.lt_size hTI
    rcases List.mem_cons.mp hb with rfl | hb
    · obtain ⟨_, _, e⟩ := hTO
      exact Heap.lt_size e
    · obtain ⟨j, ej⟩ := List.mem_iff_getElem?.mp hb
      have lt := (List.getElem?_eq_some_iff.mp ej).1
      obtain ⟨o1, e1, _⟩ := hit j _ _ ej (List.getElem?_eq_getElem (hll ▸ lt))
      exact Heap.lt_size e1
  unfold Builtin.List.listExtendWith
  refine wpAny_bind (wpAny_typeOf (ty _) ?_)
  have h1 : Builtin.List.listSameRef (.ref s.heap.objs.size) (.ref z) = false := by simp [Builtin.List.listSameRef, hSz]
  have h2 : (Value.type "zip" == Value.type "list") = false := by decide
  have h3 : (Value.type "zip" == Value.type "tuple") = false := by decide
  simp only [h1, h2, h3, Bool.or_false, Bool.false_eq_true, if_false]
  refine wpAny_bind (wpAny_pyIter_zip (old z _ hz) ?_)
  refine wpAny_bind (wpAny_holding ?_)
  unfold Builtin.List.listLengthHint
  refine wpAny_bind (wpAny_specialOf (ty _) zl_nolen ?_)
  refine PySem.W.KFB.if_not rfl ?_
  refine PySem.W.KFB.if_not rfl ?_
  refine wpAny_bind (wpAny_specialOf (ty _) zl_nohint ?_)
  refine wpAny_pure ?_
  have run : ∀ s' : Shared, s'.heap = (s.heap.push { cls := .type "list", data := .seq #[] }).update s.heap.objs.size (Obj.mapSeq fun _ => #[]) ∨ (∀ c o, c ≠ s.heap.objs.size → ((s.heap.push { cls := .type "list", data := .seq #[] }).update s.heap.objs.size (Obj.mapSeq fun _ => #[])).get? c = some o → s'.heap.get? c = some o) →
      Inv X pins σ (upd H s.heap.objs.size (.lst [])) s' → codeAny (model X.prog X.w) X.A.in1 (.builtin "list.extend.loop" ⟨[.ref s.heap.objs.size, .ref z, .none], []⟩) (wants (fun r s₂ => r = .none ∧ EP X pins σ Q (.ref s.heap.objs.size) s₂) X.xe) s' := fun s' hs I' => by
    have st0 : ZlSt ((s.heap.push { cls := .type "list", data := .seq #[] }).update s.heap.objs.size (Obj.mapSeq fun _ => #[])) z TI TO s.heap.objs.size is as 0 := by
      obtain ⟨a, ha, e⟩ := hTO
      exact ⟨old _ _ hTI, fun m i l em el => (hit m i l em el).at fun o e => old _ o e, .inl ⟨old _ _ hz, a, ha, old _ _ e⟩⟩
    have st : ZlSt s'.heap z TI TO s.heap.objs.size is as 0 := by
      rcases hs with e | k
      · rw [e]
        exact st0
      · exact st0.keep ⟨Nat.ne_of_lt (low z (by simp)), Nat.ne_of_lt (low TI (by simp)), Nat.ne_of_lt (low TO (by simp)), fun m => Nat.lt_irrefl _ (low _ (by simp [m]))⟩ k
    refine zl_loop (A1 := X.A.in1) (H0 := H) (n := n) (I.ok.hd hc) D hi hll hL hn1 hn2 hnn low sq (fun ts H' s'' o I'' => ⟨rfl, .ref s.heap.objs.size, H', I'', rfl, q H' _ ts o⟩) n 0 [] _ s' (Nat.sub_zero n) (Nat.zero_le n) I' ⟨fr, rfl, upd_same, (fun m => nomatch m), List.nodup_nil, (fun j t ht => nomatch ht), (Fr.refl H).new fr⟩ st fun b hb => ?_
    obtain ⟨f1, f2⟩ := hf b hb
    exact ⟨by rw [upd_ne (Nat.ne_of_lt (low b hb))]; exact f1, f2⟩
  refine wpAny_ite_split (fun _ => ?_) (fun _ => wpAny_pure ⟨plainId_quiet PySem.F.plain_extend_loop _, run _ (.inl rfl) I2⟩)
  refine wpAny_bind (wpAny_rule ?_)
  refine wpAny_bind ?_
  show wpAny _ _ (updateSeq s.heap.objs.size (·.push .none) >>= fun _ => updateSeq s.heap.objs.size (·.pop)) _ _ _
  obtain ⟨z3, its3, k3, r3, hl3, e3⟩ := I2.lstM upd_same
  cases r3
  refine wpAny_bind (wpAny_updateSeq e3 rfl ?_)
  have I4 := I2.lset (f := (·.push Value.none)) (its' := [Value.none]) (ys := [.non]) (t' := s.toks) upd_same e3 (by simp) (.cons rfl .nil) (by rw [List.length_singleton, sizeLine_eq]; decide)
  obtain ⟨z4, its4, k4, r4, hl4, e4⟩ := I4.lstM upd_same
  obtain ⟨u4, rfl, ru4⟩ := r4.one
  refine wpAny_updateSeq e4 rfl ?_ (by show 1 ≤ sizeLine; rw [sizeLine_eq]; decide) (by show 0 ≤ sizeLine + 1; exact Nat.zero_le _)
  have I5 := I4.lset (f := (·.pop)) (its := [u4]) (its' := []) (ys := []) (t' := s.toks) upd_same e4 (by rfl) .nil (Nat.zero_le _)
  rw [upd_upd, upd_upd] at I5
  exact wpAny_pure ⟨plainId_quiet PySem.F.plain_extend_loop _, run _ (.inr fun c o hc e => (Heap.get?_update_other _ _ (Ne.symm hc)).trans ((Heap.get?_update_other _ _ (Ne.symm hc)).trans e)) I5⟩
/-! ### the rules -/
/-- what the reading asks of list(zip(..)): lists of ints or whatever, the shortest of n -/
def rZipL (K : PySem.W.Frag) (m : Nat) : List V → Hp → VK → Prop := fun vs H Q => ∃ (as : List Addr) (L : List (List V)) (n : Nat), vs = as.map V.ref ∧ as.length = m ∧ L.length = m ∧ (∀ xs ∈ L, n ≤ xs.length) ∧ (∃ xs ∈ L, xs.length = n) ∧ n ≤ 100000 ∧ (∀ (m : Nat) a xs, as[m]? = some a → L[m]? = some xs → SqL K H a xs) ∧
  ∀ H' p ts, ZOut H H' p L n ts → Q (.ref p) H'
def tZipL (K : PySem.W.Frag) (m : Nat) (ta : TA) : TE := fun σ H Q => ta σ H fun vs H1 => rZipL K m vs H1 Q
theorem pe_listZip3 {X : Cx} {e1 e2 e3 : Expr} {ta : TA} {p p2 cpos pos : Pos} (hg : Gl X "list") (hm : X.mg "list" = none) (hg2 : Gl X "zip") (hm2 : X.mg "zip" = none) (ha : PA X [e1, e2, e3] ta) (hc : X.calm = true := by rfl) (hv : bootBuiltins "list" = some (.type "list") := by decide +kernel)
    (hz : starEach [e1, e2, e3] X.env = (false, eval e1 X.env) :: starEach [e2, e3] X.env := by rfl) (hpl : (backTo cpos (starEach [e2, e3] X.env)).any (·.1) = false := by rfl)
    (hs : starEach [.Call (.Name "zip" p2) [e1, e2, e3] [] cpos] X.env = (false, eval (.Call (.Name "zip" p2) [e1, e2, e3] [] cpos) X.env) :: starEach [] X.env := by rfl) :
    PE X (.Call (.Name "list" p) [.Call (.Name "zip" p2) [e1, e2, e3] [] cpos] [] pos) (tZipL X.K 3 ta) := by
  refine ⟨fun pins s σ H Q I hq => ?_⟩
  refine wpAny_Call_Name_kw (ld_blt I hg hm hv ?_)
  refine PyProof.Rows.callWith_type1 ?_ hs rfl
  rw [hs]
  show wpAny _ _ (spliced ((false, eval (.Call (.Name "zip" p2) [e1, e2, e3] [] cpos) X.env) :: backTo pos (starEach [] X.env))) _ _ s
  refine Calls.spliced_cons ?_
  refine Call_ (ld_blt I hg2 hm2 PyProof.Rows.boot_zip (PyProof.Rows.callWith_type1 (thn (ha.run cpos pins s σ H _ I hq) fun us s1 ⟨vs, H1, I1, r1, q1⟩ => ?_) hz hpl))
  obtain ⟨as, L, n, ex, hal, hLl, hn1, hn2, hnn, sq, q⟩ := q1
  match as, L, hal, hLl with
  | [b1, b2, b3], [y1, y2, y3], _, _ =>
    subst ex
    obtain rfl := valsRef [b1, b2, b3] r1
    obtain ⟨t1, rv1, p1, _⟩ := I1.list (sq 0 b1 y1 rfl rfl)
    have g1 : b1 < s1.heap.objs.size := p1.lt
    obtain ⟨t2, rv2, p2, _⟩ := I1.list (sq 1 b2 y2 rfl rfl)
    have g2 : b2 < s1.heap.objs.size := p2.lt
    obtain ⟨t3, rv3, p3, _⟩ := I1.list (sq 2 b3 y3 rfl rfl)
    have g3 : b3 < s1.heap.objs.size := p3.lt
    refine call_zip_3 p1.isList p2.isList p3.isList fun h' hz hTI hTO hi hk => Calls.spliced_nil ?_
    have I2 : Inv X pins σ H1 { s1 with heap := h' } := I1.kept (t' := s1.toks) hk
    exact list_of_zip (s := { s1 with heap := h' }) (is := [s1.heap.objs.size, s1.heap.objs.size + 1, s1.heap.objs.size + 2]) (as := [b1, b2, b3]) hc (apart3 g1 g2 g3) ⟨by simp, by simp⟩ rfl rfl hn1 hn2 hnn sq I2 hz hTI hTO hi (fun c hcm => I1.fpOk (fresh3 hcm) (I1.hok.fresh (fresh3 hcm))) q

theorem apart2 {N b1 b2 : Nat} (g1 : b1 < N) (g2 : b2 < N) : ApartN (N + 4) (N + 2) (N + 3) [N, N + 1] [b1, b2] := by
  refine ⟨by unfold Addr; omega, by unfold Addr; omega, by unfold Addr; omega, ?_, ?_, ?_, by simp, ?_, ?_, fun l hl m => ?_⟩
  all_goals (simp only [List.mem_cons, List.not_mem_nil, or_false, not_or] at *; unfold Addr at *; omega)
theorem fresh2 {N c : Nat} (h : c ∈ (N + 4) :: (N + 2) :: (N + 3) :: [N, N + 1]) : N ≤ c := by
  simp only [List.mem_cons, List.not_mem_nil, or_false] at h
  omega
theorem pe_listZip2 {X : Cx} {e1 e2 : Expr} {ta : TA} {p p2 cpos pos : Pos} (hg : Gl X "list") (hm : X.mg "list" = none) (hg2 : Gl X "zip") (hm2 : X.mg "zip" = none) (ha : PA X [e1, e2] ta) (hc : X.calm = true := by rfl) (hv : bootBuiltins "list" = some (.type "list") := by decide +kernel)
    (hz : starEach [e1, e2] X.env = (false, eval e1 X.env) :: starEach [e2] X.env := by rfl) (hpl : (backTo cpos (starEach [e2] X.env)).any (·.1) = false := by rfl)
    (hs : starEach [.Call (.Name "zip" p2) [e1, e2] [] cpos] X.env = (false, eval (.Call (.Name "zip" p2) [e1, e2] [] cpos) X.env) :: starEach [] X.env := by rfl) :
    PE X (.Call (.Name "list" p) [.Call (.Name "zip" p2) [e1, e2] [] cpos] [] pos) (tZipL X.K 2 ta) := by
  refine ⟨fun pins s σ H Q I hq => ?_⟩
  refine wpAny_Call_Name_kw (ld_blt I hg hm hv ?_)
  refine PyProof.Rows.callWith_type1 ?_ hs rfl
  rw [hs]
  show wpAny _ _ (spliced ((false, eval (.Call (.Name "zip" p2) [e1, e2] [] cpos) X.env) :: backTo pos (starEach [] X.env))) _ _ s
  refine Calls.spliced_cons ?_
  refine Call_ (ld_blt I hg2 hm2 PyProof.Rows.boot_zip (PyProof.Rows.callWith_type1 (thn (ha.run cpos pins s σ H _ I hq) fun us s1 ⟨vs, H1, I1, r1, q1⟩ => ?_) hz hpl))
  obtain ⟨as, L, n, ex, hal, hLl, hn1, hn2, hnn, sq, q⟩ := q1
  match as, L, hal, hLl with
  | [b1, b2], [y1, y2], _, _ =>
    subst ex
    obtain rfl := valsRef [b1, b2] r1
    obtain ⟨t1, rv1, p1, _⟩ := I1.list (sq 0 b1 y1 rfl rfl)
    have g1 : b1 < s1.heap.objs.size := p1.lt
    obtain ⟨t2, rv2, p2, _⟩ := I1.list (sq 1 b2 y2 rfl rfl)
    have g2 : b2 < s1.heap.objs.size := p2.lt
    refine call_zip_2 p1.isList p2.isList fun h' hz hTI hTO h1 h2 hsz hk => Calls.spliced_nil ?_
    have I2 : Inv X pins σ H1 { s1 with heap := h' } := I1.kept (t' := s1.toks) hk
    exact list_of_zip (s := { s1 with heap := h' }) (is := [s1.heap.objs.size, s1.heap.objs.size + 1]) (as := [b1, b2]) hc (apart2 g1 g2) ⟨by simp, by simp⟩ rfl rfl hn1 hn2 hnn sq I2 hz hTI ⟨_, rfl, hTO⟩ (fun m i l em el => match m, em, el with
      | 0, em, el => by cases em; cases el; exact h1
      | 1, em, el => by cases em; cases el; exact h2) (fun c hcm => I1.fpOk (fresh2 hcm) (I1.hok.fresh (fresh2 hcm))) q
theorem r_zipL {K : PySem.W.Frag} {m : Nat} {ta : TA} {σ : L2.St} {H : Hp} {Q : VK} (h : ta σ H fun vs H1 => rZipL K m vs H1 Q) : tZipL K m ta σ H Q := h
theorem r_zipL2 {K : PySem.W.Frag} {H : Hp} {Q : VK} {a b : Addr} {xs ys : List V} (n : Nat) (h1 : SqL K H a xs) (h2 : SqL K H b ys) (e1 : xs.length = n) (e2 : ys.length = n) (hn : n ≤ 100000) (q : ∀ H' p ts, ZOut H H' p [xs, ys] n ts → Q (.ref p) H') : rZipL K 2 [.ref a, .ref b] H Q :=
  ⟨[a, b], [xs, ys], n, rfl, rfl, rfl, fun zs hz => by
    simp only [List.mem_cons, List.not_mem_nil, or_false] at hz
    rcases hz with rfl | rfl <;> omega, ⟨xs, by simp, e1⟩, hn, fun m a xs em ex => match m, em, ex with
    | 0, em, ex => by cases em; cases ex; exact h1
    | 1, em, ex => by cases em; cases ex; exact h2, q⟩
theorem r_zipL3 {K : PySem.W.Frag} {H : Hp} {Q : VK} {a b c : Addr} {xs ys zs : List V} (n : Nat) (h1 : SqL K H a xs) (h2 : SqL K H b ys) (h3 : SqL K H c zs) (e1 : xs.length = n) (e2 : ys.length = n) (e3 : zs.length = n) (hn : n ≤ 100000) (q : ∀ H' p ts, ZOut H H' p [xs, ys, zs] n ts → Q (.ref p) H') : rZipL K 3 [.ref a, .ref b, .ref c] H Q :=
  ⟨[a, b, c], [xs, ys, zs], n, rfl, rfl, rfl, fun us hz => by
    simp only [List.mem_cons, List.not_mem_nil, or_false] at hz
    rcases hz with rfl | rfl | rfl <;> omega, ⟨xs, by simp, e1⟩, hn, fun m a xs em ex => match m, em, ex with
    | 0, em, ex => by cases em; cases ex; exact h1
    | 1, em, ex => by cases em; cases ex; exact h2
    | 2, em, ex => by cases em; cases ex; exact h3, q⟩
set_option Elab.async false
set_option linter.all false
set_option maxRecDepth 100000
set_option maxHeartbeats 4000000
/-! ## xs[i] read for xs[i] op= e -/
theorem pget_list {X : Cx} : PGet X (rIxL X.K) := by
  intro pins s σ H x y v u Q I rx ry h
  obtain ⟨p, xs, i, z, rfl, rfl, hq, he, q⟩ := h
  cases rx
  obtain ⟨t, rfl⟩ := ry
  obtain ⟨its, r, pl, hz⟩ := I.list hq
  obtain ⟨j, h1, h2, h3, h4, h5⟩ := atI_get he
  obtain ⟨w, ew, rw'⟩ := r.get h2
  have hl := r.length
  have hn := line63
  have fin : EP X pins σ Q w s := ⟨z, H, I, rw', q⟩
  by_cases h0 : 0 ≤ i
  · have hj : i.toNat = j := by
      rw [seqIndex_of h0 h5] at h1
      exact Option.some.inj h1
    exact wpAny_getItem_list pl.isList h0 (by omega) (by rw [hj]; simpa using ew) fin
  · have hj : (i + (its.toArray.size : Int)).toNat = j := by
      rw [seqIndex_neg (by omega) h4] at h1
      rw [List.size_toArray, ← hl]
      exact Option.some.inj h1
    exact wpAny_getItem_list_neg pl.isList (by omega) (by rw [List.size_toArray] <;> omega) (by omega) (by rw [hj]; simpa using ew) fin
theorem r_augS {to ti te : TE} {tget : V → V → Hp → VK → Prop} {tip : TIp} {tset : TSet} {D : Ends} {σ : L2.St} {H : Hp}
    (h : to σ H fun o H1 => ti σ H1 fun i H2 => tget o i H2 fun x H3 => te σ H3 fun y H4 => tip x y H4 fun z H5 => tset o i z H5 fun H6 => D.nx σ H6) : tAugS to ti te tget tip tset D σ H := h
theorem r_ipI {f : Int → Int → Int} {i j : Int} {H : Hp} {Q : VK} (q : Q (.int (f i j)) H) : ipI f (.int i) (.int j) H Q := ⟨i, j, rfl, rfl, q⟩
theorem hu1 {k : Nat} {A : Around} (h : Room k A) : A.units + 1 < cLine := by
  have := h.units
  omega
/-! ## f(k = e, ..) of a def -/
def tCallKw (n : Nat) (sp : Sp) (g : List V → List V → List V) (tk : TA) : TE := fun σ H Q => tk σ H fun zs H2 => zs.length = n ∧ sp (g [] zs) H2 Q E0
section
variable {X : Cx} {x q : Str} {st : Stmt} {ps : List Str} {k j : Nat} {sp : Sp} {p pos : Pos}
theorem pe_fK {kws : List Keyword} {tk : TA} {ks : List Str} {g : {α : Type} → List α → List α → List α} (h : Fk X.prog X.w X.K X.mg X.base x ps k sp st q) (hr : Room j X.A) (kb : KwOk x q st ps ks 0 g)
    (rel : ∀ {vs : List V} {us : List Value} {zs : List V} {ws : List Value}, Vals vs us → Vals zs ws → zs.length = ks.length → vs.length = 0 → Vals (g vs zs) (g us ws)) (hkw : PK X kws tk) (hj : k ≤ j := by decide) (hg : Gl X x := by rfl) (hdb : (x == ("__debug__" : Str)) = false := by decide)
    (hall : (backToKw pos (keywordEach kws X.env)).all (·.1.isSome) = true := by rfl) (hks : (backToKw pos (keywordEach kws X.env)).filterMap (·.1) = ks := by rfl)
    (hpl : ((backTo pos (starEach [] X.env)).any (·.1) || (backToKw pos (keywordEach kws X.env)).any (·.1.isNone)) = false := by rfl) : PE X (.Call (.Name x p) [] kws pos) (tCallKw ks.length sp g tk) := by
  obtain ⟨f, fd, F, hm, kp, b, fu⟩ := h.ex
  have to := kw_to fu kb
  refine ⟨fun pins s σ H Q I hh => wpAny_Call_Name_kw (ld_glob I hg hm ?_ hdb)⟩
  refine PySem.W.callWith_KW0 (h₀ := X.base) (first := []) I.ok.mod.kin kp hall (thn (hkw.run pos pins s σ H _ I hh) fun ws s2 ⟨zs, H2, I2, rz, hz, q2⟩ => ⟨I2.kIn, ?_⟩) hpl
  rw [hks]
  have r0 : Vals [] [] := .nil
  have r2 := rel r0 rz hz rfl
  refine wpAny_call (codeAny_mono (F.run X.A X.stack s2 H2 ⟨[], ks.zip ws⟩ (g [] ws) (g [] zs) Q E0 (hr.mono hj) I2.env0 (to s2 [] ws rfl (rz.length.symm.trans hz)) r2 q2) fun r s' hq => ?_)
  cases r with
  | error e => exact hq.elim
  | ok fl =>
    cases fl with
    | ret u => exact I2.after hq
    | next => exact False.elim hq
    | brk => exact False.elim hq
    | cont => exact False.elim hq
theorem pe_fKG {kws : List Keyword} {tk : TA} {ks : List Str} {g : {α : Type} → List α → List α → List α} (h : FkG X.prog X.w X.K X.mg X.base x ps k sp st q) (gd : X.A.guards = some []) (hr : Room j X.A) (kb : KwOk x q st ps ks 0 g)
    (rel : ∀ {vs : List V} {us : List Value} {zs : List V} {ws : List Value}, Vals vs us → Vals zs ws → zs.length = ks.length → vs.length = 0 → Vals (g vs zs) (g us ws)) (hkw : PK X kws tk) (hj : k ≤ j := by decide) (hg : Gl X x := by rfl) (hdb : (x == ("__debug__" : Str)) = false := by decide)
    (hall : (backToKw pos (keywordEach kws X.env)).all (·.1.isSome) = true := by rfl) (hks : (backToKw pos (keywordEach kws X.env)).filterMap (·.1) = ks := by rfl)
    (hpl : ((backTo pos (starEach [] X.env)).any (·.1) || (backToKw pos (keywordEach kws X.env)).any (·.1.isNone)) = false := by rfl) : PE X (.Call (.Name x p) [] kws pos) (tCallKw ks.length sp g tk) := by
  obtain ⟨f, fd, F, hm, kp, b, fu⟩ := h.ex
  have to := kw_to fu kb
  refine ⟨fun pins s σ H Q I hh => wpAny_Call_Name_kw (ld_glob I hg hm ?_ hdb)⟩
  refine PySem.W.callWith_KW0 (h₀ := X.base) (first := []) I.ok.mod.kin kp hall (thn (hkw.run pos pins s σ H _ I hh) fun ws s2 ⟨zs, H2, I2, rz, hz, q2⟩ => ⟨I2.kIn, ?_⟩) hpl
  rw [hks]
  have r0 : Vals [] [] := .nil
  have r2 := rel r0 rz hz rfl
  refine wpAny_call (codeAny_mono (F.go X.A X.stack s2 H2 ⟨[], ks.zip ws⟩ (g [] ws) (g [] zs) Q E0 gd (hr.mono hj) I2.env0 (to s2 [] ws rfl (rz.length.symm.trans hz)) r2 q2) fun r s' hq => ?_)
  cases r with
  | error e => exact hq.elim
  | ok fl =>
    cases fl with
    | ret u => exact I2.after hq
    | next => exact False.elim hq
    | brk => exact False.elim hq
    | cont => exact False.elim hq
end
theorem r_callKw {n : Nat} {sp : Sp} {g : List V → List V → List V} {tk : TA} {σ : L2.St} {H : Hp} {Q : VK} (h : tk σ H fun zs H2 => zs.length = n ∧ sp (g [] zs) H2 Q E0) : tCallKw n sp g tk σ H Q := h
theorem r_ckw {r : List V → List V → Hp → VK → Prop} {t tk : TA} {σ : L2.St} {H : Hp} {Q : VK} (h : t σ H fun vs H1 => tk σ H1 fun zs H2 => r vs zs H2 Q) : tCKw r t tk σ H Q := h
theorem r_sortI {K : PySem.W.Frag} {H : Hp} {Q : VK} {a : Addr} {ns : List Int} (h : SqL K H a (ns.map V.int)) (q : ∀ (ns' : List Int) (p : Addr), ns'.Perm ns → ns'.Pairwise (· ≤ ·) → H p = none → Q (.ref p) (upd H p (.lst (ns'.map V.int)))) : rSortedI K [.ref a] H Q := ⟨a, ns, rfl, h, q⟩
theorem r_sortKw {K : PySem.W.Frag} {H : Hp} {Q : VK} {a : Addr} {b : Bool} {zs : List V} {ns : List Int} (h : SqL K H a (ns.map V.int)) (q : ∀ (ns' : List Int) (p : Addr), ns'.Perm ns → OrdB b ns' → H p = none → Q (.ref p) (upd H p (.lst (ns'.map V.int)))) : rSortedKw K b zs [.ref a] zs H Q := ⟨a, ns, rfl, rfl, h, q⟩
/-! ## the order's mathematics -/
def insD (x : Int) : List Int → List Int
  | [] => [x]
  | y :: r => if y ≤ x then x :: y :: r else y :: insD x r
/-- sorted, the greatest ahead -/
def desc : List Int → List Int
  | [] => []
  | x :: r => insD x (desc r)
theorem insD_perm (x : Int) : ∀ l : List Int, (insD x l).Perm (x :: l)
  | [] => List.Perm.refl _
  | y :: r => by
    unfold insD
    split
    · exact List.Perm.refl _
    · exact ((insD_perm x r).cons y).trans (List.Perm.swap x y r)
theorem desc_perm : ∀ l : List Int, (desc l).Perm l
  | [] => List.Perm.refl _
  | x :: r => (insD_perm x _).trans ((desc_perm r).cons x)
theorem insD_ord {x : Int} : ∀ {l : List Int}, l.Pairwise (· ≥ ·) → (insD x l).Pairwise (· ≥ ·)
  | [], _ => List.pairwise_singleton _ _
  | y :: r, h => by
    rw [List.pairwise_cons] at h
    unfold insD
    split
    · rename_i c
      refine List.pairwise_cons.mpr ⟨fun z hz => ?_, List.pairwise_cons.mpr h⟩
      rcases List.mem_cons.mp hz with e | hz
      · rw [e]
        exact c
      · exact Int.le_trans (h.1 z hz) c
    · rename_i c
      refine List.pairwise_cons.mpr ⟨fun z hz => ?_, insD_ord h.2⟩
      rcases List.mem_cons.mp ((insD_perm x r).subset hz) with e | hz
      · rw [e]
        omega
      · exact h.1 z hz
theorem desc_ord : ∀ l : List Int, (desc l).Pairwise (· ≥ ·)
  | [] => List.Pairwise.nil
  | x :: r => insD_ord (desc_ord r)
theorem ord_eq : ∀ {l m : List Int}, l.Perm m → l.Pairwise (· ≥ ·) → m.Pairwise (· ≥ ·) → l = m
  | [], m, p, _, _ => (List.Perm.nil_eq p)
  | x :: l, [], p, _, _ => absurd p.length_eq (by simp)
  | x :: l, y :: m, p, h1, h2 => by
    rw [List.pairwise_cons] at h1 h2
    have e : x = y := by
      have m1 := p.subset List.mem_cons_self
      have m2 := p.symm.subset (List.mem_cons_self (a := y) (l := m))
      rcases List.mem_cons.mp m1 with e | m1
      · exact e
      · rcases List.mem_cons.mp m2 with e | m2
        · exact e.symm
        · have := h1.1 y m2
          have := h2.1 x m1
          omega
    subst e
    rw [ord_eq ((List.perm_cons x).mp p) h1.2 h2.2]
theorem desc_is {l m : List Int} (p : l.Perm m) (h : l.Pairwise (· ≥ ·)) : l = desc m := ord_eq (p.trans (desc_perm m).symm) h (desc_ord m)
theorem asc_is {l m : List Int} (p : l.Perm m) (h : l.Pairwise (· ≤ ·)) : l.reverse = desc m := desc_is ((List.reverse_perm l).trans p) (List.pairwise_reverse.mpr (h.imp fun z => z))
set_option Elab.async false
set_option linter.all false
set_option maxRecDepth 100000
set_option maxHeartbeats 4000000
set_option exponentiation.threshold 2000
/-! lemmas that hang on no law's text: for laws without plans -/
theorem dpAll_ints {K : PySem.W.Frag} {H : Hp} : ∀ ns : List Int, DpAll K H (ns.map V.int) (ns.map PyData.int)
  | [] => .nil
  | n :: r => .cons (.int n) (dpAll_ints r)
theorem canLay_ints : ∀ ns : List Int, PyData.canLayAll0 (ns.map PyData.int) = true
  | [] => rfl
  | n :: r => by
    rw [List.map_cons, PyData.canLayAll0, canLay_ints r]
    rfl
theorem depth_ints : ∀ ns : List Int, PyData.depthAll (ns.map PyData.int) = 0
  | [] => rfl
  | n :: r => by
    rw [List.map_cons, PyData.depthAll, depth_ints r]
    rfl
theorem shaped_ints (ns : List Int) : SeqAt.shaped (.list (ns.map PyData.int)) = true := by
  unfold SeqAt.shaped
  rw [PyData.canLay0, canLay_ints, PyData.depth, depth_ints]
  rfl
theorem r_eqI {K : PySem.W.Frag} {H : Hp} {Q : VK} {a b : Addr} {ns ms : List Int} (ha : SqL K H a (ns.map V.int)) (hb : SqL K H b (ms.map V.int)) (q : Q (.bl (decide (ns = ms))) H) : rEqD K (.ref a) (.ref b) H Q := by
  refine ⟨.list (ns.map PyData.int), .list (ms.map PyData.int), .lst ha (dpAll_ints ns), .lst hb (dpAll_ints ms), shaped_ints ns, shaped_ints ms, ?_⟩
  rw [PyData.eqv, PySem.W.ked_eqvAll]
  exact q
theorem nth_app_lt {ns : List Int} {x : Int} {i : Nat} (h : i < ns.length) : nth (ns ++ [x]) i = nth ns i := by
  unfold nth
  rw [List.getD_eq_getElem?_getD, List.getD_eq_getElem?_getD, List.getElem?_append_left h]
theorem nth_app_at {ns : List Int} {x : Int} {i : Nat} (h : i = ns.length) : nth (ns ++ [x]) i = x := by
  unfold nth
  rw [List.getD_eq_getElem?_getD, h, List.getElem?_concat_length]
  rfl
theorem nth_set_ne {ns : List Int} {x : Int} {i k : Nat} (h : i ≠ k) : nth (ns.set k x) i = nth ns i := by
  unfold nth
  rw [List.getD_eq_getElem?_getD, List.getD_eq_getElem?_getD, List.getElem?_set_ne (Ne.symm h)]
theorem nth_set_at {ns : List Int} {x : Int} {k : Nat} (h : k < ns.length) : nth (ns.set k x) k = x := by
  unfold nth
  rw [List.getD_eq_getElem?_getD, List.getElem?_set_self h]
  rfl
/-- the sum of the first ones, up to the i-th -/
def psum (ns : List Int) (i : Nat) : Int := (ns.take (i + 1)).sum
theorem take_sum {ns : List Int} {i : Nat} (h : i < ns.length) : (ns.take (i + 1)).sum = (ns.take i).sum + nth ns i := by
  rw [← getElem_nth h]
  exact sum_take (List.getElem?_eq_getElem h)
theorem ixN_end {n : Nat} (h : 0 < n) : ixN n (-1) = some (n - 1) := by
  unfold ixN
  rw [if_neg (by decide), if_pos (by omega)]
  congr 1
  omega
theorem three {a b c : Int} {v : Int} (h0 : 0 ≤ v) (h1 : v < 3) : ∃ x, atI [V.int a, V.int b, V.int c] v = some (.int x) ∧ (x = a ∨ x = b ∨ x = c) := by
  rcases (show v = 0 ∨ v = 1 ∨ v = 2 by omega) with rfl | rfl | rfl
  · exact ⟨a, rfl, .inl rfl⟩
  · exact ⟨b, rfl, .inr (.inl rfl)⟩
  · exact ⟨c, rfl, .inr (.inr rfl)⟩
theorem atN {ns : List Int} {i : Nat} (h : i < ns.length) : atI (ns.map V.int) (i : Int) = some (.int (nth ns i)) := atI_nat (at_nth h)
theorem ixN_at {n i : Nat} (h : i < n) : ixN n (i : Int) = some i := by
  unfold ixN
  rw [if_pos (by omega), if_pos (by omega)]
  rfl
theorem sel_mem {E : List En} : ∀ (is : List Nat) (N : List En), is.map (fun i => E[i]?) = N.map some → ∀ q ∈ N, ∃ i ∈ is, E[i]? = some q
  | [], [], _, q, hq => nomatch hq
  | [], _ :: _, e, _, _ => by cases e
  | _ :: _, [], e, _, _ => by cases e
  | i :: is, p :: N, e, q, hq => by
    rw [List.map_cons, List.map_cons, List.cons.injEq] at e
    rcases List.mem_cons.mp hq with rfl | hq
    · exact ⟨i, List.mem_cons_self, e.1⟩
    · obtain ⟨k, hk, h⟩ := sel_mem is N e.2 q hq
      exact ⟨k, List.mem_cons_of_mem _ hk, h⟩
theorem sel_nd {H0 H : Hp} {j : Addr} {n : Nat} {E : List En} (z : ZJ H0 H j n E) : ∀ (is : List Nat) (N : List En), is.Nodup → is.map (fun i => E[i]?) = N.map some → (N.map (·.2.1)).Nodup
  | [], [], _, _ => List.nodup_nil
  | [], _ :: _, _, e => by cases e
  | _ :: _, [], _, e => by cases e
  | i :: is, p :: N, nd, e => by
    rw [List.map_cons, List.map_cons, List.cons.injEq] at e
    rw [List.nodup_cons] at nd
    rw [List.map_cons, List.nodup_cons]
    refine ⟨fun m => ?_, sel_nd z is N nd.2 e.2⟩
    obtain ⟨q, hq, e1⟩ := List.mem_map.mp m
    obtain ⟨k, hk, h⟩ := sel_mem is N e.2 q hq
    exact z.other e.1 h (fun x => nd.1 (x ▸ hk)) e1
/-- what is known, told anew by places -/
theorem ZJ.sel {H0 H : Hp} {j : Addr} {n : Nat} {E E' : List En} (z : ZJ H0 H j n E) (is : List Nat) (e : is.map (fun i => E[i]?) = E'.map some) (nd : is.Nodup := by decide) : ZJ H0 H j n E' := by
  have m : ∀ q ∈ E', q ∈ E := fun q hq => by
    obtain ⟨i, _, h⟩ := sel_mem is E' e q hq
    exact List.mem_of_getElem? h
  exact ⟨z.jar, sel_nd z is E' nd e, fun q hq => z.at_ q (m q hq), fun q hq => z.ne q (m q hq), fun q hq => z.two q (m q hq), fun q hq => z.fresh q (m q hq), z.fr⟩
theorem four {a b c d : Int} {v : Int} (h0 : 0 ≤ v) (h1 : v < 4) : ∃ x, atI [V.int a, V.int b, V.int c, V.int d] v = some (.int x) ∧ (x = a ∨ x = b ∨ x = c ∨ x = d) := by
  rcases (show v = 0 ∨ v = 1 ∨ v = 2 ∨ v = 3 by omega) with rfl | rfl | rfl | rfl
  · exact ⟨a, rfl, .inl rfl⟩
  · exact ⟨b, rfl, .inr (.inl rfl)⟩
  · exact ⟨c, rfl, .inr (.inr (.inl rfl))⟩
  · exact ⟨d, rfl, .inr (.inr (.inr rfl))⟩
theorem nin {α : Type} {a : α} : a ∉ ([] : List α) := fun m => nomatch m
theorem Fr.drop {H H1 H2 : Hp} {p : Addr} (a : Fr [] H H1) (b : Fr [p] H1 H2) (h : H p = none) : Fr [] H H2 := fun x o hx e => b x o (fun m => by
  rw [List.mem_singleton.mp m, h] at e
  cases e) (a x o hx e)
theorem atI_n0 {ns : List Int} {i : Nat} (h : i < ns.length) : atI (ns.map V.int) (0 + (i : Int)) = some (.int (nth ns i)) := by
  rw [Int.zero_add, atI_nth (by omega) (by omega)]
  rfl
theorem range_mapI (ns : List Int) (g : Int → Int) : ((List.range ns.length).map fun i => g (nth ns i)) = ns.map g := by
  rw [show (fun i => g (nth ns i)) = g ∘ nth ns from rfl, ← List.map_map, range_nth]
def catA {α : Type} (us ws : List α) : List α := us ++ ws
def Sm (x : Int) : Prop := -(2 ^ 180) ≤ x ∧ x ≤ 2 ^ 180
theorem sum_small {M : Int} : ∀ {l : List Int}, (∀ x ∈ l, -M ≤ x ∧ x ≤ M) → -((l.length : Int) * M) ≤ l.sum ∧ l.sum ≤ (l.length : Int) * M
  | [], _ => by simp
  | x :: r, h => by
    have := sum_small (l := r) fun y hy => h y (.tail _ hy)
    have := h x (.head _)
    rw [List.sum_cons, List.length_cons, show ((r.length + 1 : Nat) : Int) * M = (r.length : Int) * M + M by rw [Int.natCast_add, Int.add_mul]; simp]
    omega
theorem mem_nth {ns : List Int} {x : Int} (h : x ∈ ns) : ∃ i, i < ns.length ∧ nth ns i = x := by
  obtain ⟨i, hi, e⟩ := List.mem_iff_getElem.mp h
  exact ⟨i, hi, by rw [← getElem_nth hi]; exact e⟩
theorem Sm.log {x : Int} (h : Sm x) : x.natAbs.log2 < 190 := by
  have e : (2 : Int) ^ 180 < 2 ^ 190 := by decide +kernel
  have e2 : ((2 ^ 190 : Nat) : Int) = (2 : Int) ^ 190 := by simp
  unfold Sm at h
  exact PySem.Flt.log2_lt_of (by decide) (show x.natAbs < 2 ^ 190 by omega)
theorem Sm.text {x : Int} (h : Sm x) : (PyData.int x).shown.length ≤ 191 := by
  rw [PyData.shown]
  show (Str.ofString (toString x)).length ≤ 191
  rw [PySem.ofString_length]
  exact int_text_length_le (by decide) h.log
theorem show_ints : ∀ {ns : List Int}, (∀ x ∈ ns, Sm x) → PyData.showableAll (ns.map PyData.int) = true
  | [], _ => rfl
  | x :: r, h => by
    have := (h x (.head _)).log
    rw [List.map_cons, PyData.showableAll, PyData.showable, show_ints fun y hy => h y (.tail _ hy), decide_eq_true (by omega)]
    rfl
theorem dict_ints : ∀ {ns : List Int}, PyData.hasDictAll (ns.map PyData.int) = false
  | [] => rfl
  | x :: r => by
    rw [List.map_cons, PyData.hasDictAll, PyData.hasDict, dict_ints]
    rfl
theorem len_ints : ∀ {ns : List Int}, (∀ x ∈ ns, Sm x) → ((PyData.shownAll (ns.map PyData.int)).map (·.length)).sum ≤ 191 * ns.length ∧ (PyData.shownAll (ns.map PyData.int)).length = ns.length
  | [], _ => ⟨Nat.le_refl _, rfl⟩
  | x :: r, h => by
    have h1 := len_ints (ns := r) fun y hy => h y (.tail _ hy)
    have h2 := (h x (.head _)).text
    rw [List.map_cons, PyData.shownAll, List.map_cons, List.sum_cons, List.length_cons, List.length_cons, h1.2]
    omega
theorem text_ints {ns : List Int} (h : ∀ x ∈ ns, Sm x) : (PyData.list (ns.map PyData.int)).shown.length ≤ 193 * ns.length + 3 := by
  have h1 := len_ints h
  have h2 := listText_len_le (PyData.shownAll (ns.map PyData.int))
  rw [PyData.shown]
  omega

theorem Fr.none {H H1 : Hp} {p : Addr} (f : Fr [] H H1) (h : H1 p = Option.none) : H p = Option.none := by
  cases e : H p with
  | none => rfl
  | some o =>
    rw [f _ _ (fun z => nomatch z) e] at h
    cases h
def revA {α : Type} (us ws : List α) : List α := us ++ ws.reverse
theorem kr_rev0 {n : Nat} {vs : List V} {us : List Value} {zs : List V} {ws : List Value} (h1 : Vals vs us) (h2 : Vals zs ws) (_ : zs.length = n) (_ : vs.length = 0) : Vals (revA vs zs) (revA us ws) := h1.append h2.reverse
theorem kr_cat0 {n : Nat} {vs : List V} {us : List Value} {zs : List V} {ws : List Value} (h1 : Vals vs us) (h2 : Vals zs ws) (_ : zs.length = n) (_ : vs.length = 0) : Vals (catA vs zs) (catA us ws) := h1.append h2
/-! ## lists with a test -/
/-- [f(i) for .. if p(i)], nothing that stood changed -/
theorem lc_filt {J : It} {n : Nat} {GG : Hp → Prop} {Y : Nat → Hp → V → Hp → Prop} {g : TG} {tt : TT} {te : TE} {vs : List Nat} {σ : L2.St} {H1 : Hp} {Q : VK} (w : Walk J n GG Y) (f : Nat → V) (p : Nat → Bool) (hn : n ≤ 100000) (hG : ∀ H', Fr [] H1 H' → GG H') (hY : ∀ i H' x H'', Y i H' x H'' → Fr [] H' H'')
    (he : ∀ i x H' H'' (R : VK) (N : Hp → Prop), i < n → Fr [] H1 H' → Y i H' x H'' → (p i = true → ∀ H4, Fr [] H'' H4 → R (f i) H4) → (p i = false → ∀ H4, Fr [] H'' H4 → N H4) → g x (wipe σ vs) H'' fun σ2 H2 => wipe σ2 vs = wipe σ vs ∧ tt σ2 H2 fun b H3 => if b = true then te σ2 H3 R else N H3)
    (hd : ∀ D H', H1 D = none → Fr [] H1 H' → H' D = some (.lst (((List.range n).filter p).map f)) → Q (.ref D) H') : LcJ g tt te vs σ Q J H1 := by
  intro D hD
  refine lc_it w (fun i H' => i ≤ n ∧ Fr [] H1 H' ∧ H' D = some (.lst (((List.range i).filter p).map f))) ⟨Nat.zero_le _, (Fr.refl H1).mut hD, upd_same⟩ (fun i H' _ p => hG H' p.2.1) (fun i x H' H'' hi p y => ?_) (fun H' p => hd D H' hD p.2.1 p.2.2)
  obtain ⟨p1, p2, p3⟩ := p
  have hf := hY i H' x H'' y
  refine he i x H' H'' _ _ hi p2 y (fun pi H4 e4 => ?_) (fun pi H4 e4 => ?_)
  · have e5 : Fr [] H' H4 := hf.trans e4
    refine ⟨_, e5 _ _ (fun z => nomatch z) p3, ?_, hi, (p2.trans e5).mut hD, ?_⟩
    · rw [List.length_map]
      have := List.length_filter_le p (List.range i)
      rw [List.length_range] at this
      exact Nat.lt_of_le_of_lt this (Nat.lt_of_lt_of_le (show i < 100001 by omega) (by decide))
    · rw [upd_same, List.range_succ, List.filter_append, List.map_append, List.filter_cons_of_pos (by exact pi)]
      rfl
  · have e5 : Fr [] H' H4 := hf.trans e4
    refine ⟨hi, p2.trans e5, ?_⟩
    rw [List.range_succ, List.filter_append, List.filter_cons_of_neg (by simp [pi]), List.filter_nil, List.append_nil]
    exact e5 _ _ (fun z => nomatch z) p3
/-- xs == [] -/
theorem eqv_nil (ds : List PyData) : (PyData.list ds).eqv (.list []) = ds.isEmpty := by
  cases ds <;> rfl
theorem r_eqNil {K : PySem.W.Frag} {H : Hp} {Q : VK} {a b : Addr} {xs : List V} {ds : List PyData} (ha : SqL K H a xs) (hb : SqL K H b []) (hd : DpAll K H xs ds) (hs : SeqAt.shaped (.list ds) = true) (q : Q (.bl ds.isEmpty) H) : rEqD K (.ref a) (.ref b) H Q :=
  ⟨.list ds, .list [], .lst ha hd, .lst hb .nil, hs, rfl, by rw [eqv_nil]; exact q⟩
/-! ## sums -/
/-- X_0 .. X_i -/
def sumsTo (ns : List Int) (i : Nat) : List Int := (List.range (i + 1)).map fun k => (ns.take k).sum
abbrev sums0 (ns : List Int) : List Int := sumsTo ns ns.length
/-- X_1 .. X_i -/
def hsTo (ns : List Int) (i : Nat) : List Int := (List.range i).map fun k => (ns.take (k + 1)).sum
abbrev heights (ns : List Int) : List Int := hsTo ns ns.length
theorem sumsTo_len {ns : List Int} {i : Nat} : (sumsTo ns i).length = i + 1 := by simp [sumsTo]
theorem hsTo_len {ns : List Int} {i : Nat} : (hsTo ns i).length = i := by simp [hsTo]
theorem sumsTo_zero (ns : List Int) : sumsTo ns 0 = [0] := rfl
theorem sumsTo_succ (ns : List Int) (i : Nat) : sumsTo ns (i + 1) = sumsTo ns i ++ [(ns.take (i + 1)).sum] := by
  unfold sumsTo
  rw [List.range_succ, List.map_append]
  rfl
theorem hsTo_succ (ns : List Int) (i : Nat) : hsTo ns (i + 1) = hsTo ns i ++ [(ns.take (i + 1)).sum] := by
  unfold hsTo
  rw [List.range_succ, List.map_append]
  rfl
theorem nth_range {f : Nat → Int} {n i : Nat} (h : i < n) : nth ((List.range n).map f) i = f i := by
  unfold nth
  rw [List.getD_eq_getElem?_getD, List.getElem?_map, List.getElem?_range h]
  rfl
theorem nth_sumsTo {ns : List Int} {i k : Nat} (h : k ≤ i) : nth (sumsTo ns i) k = (ns.take k).sum := nth_range (by omega)
theorem nth_hsTo {ns : List Int} {i k : Nat} (h : k < i) : nth (hsTo ns i) k = (ns.take (k + 1)).sum := nth_range h
theorem leAll_iff {ns ms : List Int} : leAll ns ms = true ↔ ∀ i, i < ns.length → i < ms.length → nth ns i ≤ nth ms i := by
  unfold leAll
  rw [List.all_eq_true]
  constructor
  · intro h i h1 h2
    exact of_decide_eq_true (h i (List.mem_range.mpr (by omega)))
  · intro h i hi
    have := List.mem_range.mp hi
    exact decide_eq_true (h i (by omega) (by omega))
theorem nth_ext {ns ms : List Int} (l : ns.length = ms.length) (h : ∀ i, i < ns.length → nth ns i = nth ms i) : ns = ms := by
  refine List.ext_getElem l fun i h1 h2 => ?_
  rw [getElem_nth h1, getElem_nth h2]
  exact h i h1
theorem sum_set {ns : List Int} : ∀ {k : Nat} {x : Int}, k < ns.length → (ns.set k x).sum = ns.sum - nth ns k + x := by
  induction ns with
  | nil => intro k x h; exact absurd h (Nat.not_lt_zero k)
  | cons a r ih =>
    intro k x h
    cases k with
    | zero =>
      show x + r.sum = a + r.sum - a + x
      omega
    | succ k =>
      have := ih (k := k) (x := x) (by simpa using h)
      show a + (r.set k x).sum = a + r.sum - nth r k + x
      omega
set_option Elab.async false
set_option linter.all false
set_option maxRecDepth 100000
set_option maxHeartbeats 4000000
def top (i : Nat) : Stmt := PySem.Challenge.pw_evenbits_k24_prices_of_entries.main.body.getD i (.Pass ⟨0, 0, 0, 0⟩)
abbrev s_is_whole : Stmt := top 2
theorem sc_is_whole : FnScope ["thing"] ["thing"] (defScope s_is_whole) := ⟨rfl, rfl, rfl, by decide +kernel, rfl, by decide +kernel, by decide +kernel⟩
abbrev s_is_whole_list : Stmt := top 3
theorem sc_is_whole_list : FnScope ["thing", "entry"] ["thing"] (defScope s_is_whole_list) := ⟨rfl, rfl, rfl, by decide +kernel, rfl, by decide +kernel, by decide +kernel⟩
abbrev s_is_whole_tuple : Stmt := top 4
theorem sc_is_whole_tuple : FnScope ["thing", "many", "part"] ["thing", "many"] (defScope s_is_whole_tuple) := ⟨rfl, rfl, rfl, by decide +kernel, rfl, by decide +kernel, by decide +kernel⟩
abbrev s_is_price : Stmt := top 12
theorem sc_is_price : FnScope ["thing", "slope", "corners", "ascends", "corner", "value", "_", "behind", "more"] ["thing"] (defScope s_is_price) := ⟨rfl, rfl, rfl, by decide +kernel, rfl, by decide +kernel, by decide +kernel⟩
abbrev s_check_price : Stmt := top 13
theorem sc_check_price : FnScope ["price"] ["price"] (defScope s_check_price) := ⟨rfl, rfl, rfl, by decide +kernel, rfl, by decide +kernel, by decide +kernel⟩
abbrev s__price_of : Stmt := top 16
theorem sc__price_of : FnScope ["price", "value", "slope", "corners", "above", "corner", "more"] ["price", "value"] (defScope s__price_of) := ⟨rfl, rfl, rfl, by decide +kernel, rfl, by decide +kernel, by decide +kernel⟩
abbrev s_price_at : Stmt := top 14
theorem sc_price_at : FnScope ["price", "value"] ["price", "value"] (defScope s_price_at) := ⟨rfl, rfl, rfl, by decide +kernel, rfl, by decide +kernel, by decide +kernel⟩
abbrev s_cost_of : Stmt := top 15
theorem sc_cost_of : FnScope ["row", "price", "entry"] ["row", "price"] (defScope s_cost_of) := ⟨rfl, rfl, rfl, by decide +kernel, rfl, by decide +kernel, by decide +kernel⟩
abbrev s__law_jar : Stmt := top 18
theorem sc__law_jar : FnScope ["script", "k", "cell_here"] ["script", "k"] (defScope s__law_jar) := ⟨rfl, rfl, rfl, by decide +kernel, rfl, by decide +kernel, by decide +kernel⟩
abbrev s__law_dip : Stmt := top 19
theorem sc__law_dip : FnScope ["jar", "many", "digit", "mixed"] ["jar", "many"] (defScope s__law_dip) := ⟨rfl, rfl, rfl, by decide +kernel, rfl, by decide +kernel, by decide +kernel⟩
abbrev s__law_price : Stmt := top 20
theorem sc__law_price : FnScope ["jar", "near", "corners_here", "turn", "spot"] ["jar", "near"] (defScope s__law_price) := ⟨rfl, rfl, rfl, by decide +kernel, rfl, by decide +kernel, by decide +kernel⟩
abbrev s__law_cost : Stmt := top 21
theorem sc__law_cost : FnScope ["price_here", "entry", "slope_here", "corners_here", "found", "spot", "more"] ["price_here", "entry"] (defScope s__law_cost) := ⟨rfl, rfl, rfl, by decide +kernel, rfl, by decide +kernel, by decide +kernel⟩
abbrev s__law_steps : Stmt := top 22
theorem sc__law_steps : FnScope ["price_here", "entry", "slope_here", "corners_here", "found", "spot", "here", "steep", "edge", "more"] ["price_here", "entry"] (defScope s__law_steps) := ⟨rfl, rfl, rfl, by decide +kernel, rfl, by decide +kernel, by decide +kernel⟩
abbrev s__law_prices_right : Stmt := top 23
theorem sc__law_prices_right : FnScope ["jar", "price_here", "kept", "entry", "due", "great", "some", "turn"] ["jar"] (defScope s__law_prices_right) := ⟨rfl, rfl, rfl, by decide +kernel, rfl, by decide +kernel, by decide +kernel⟩
abbrev s__law_odd_right : Stmt := top 24
theorem sc__law_odd_right : FnScope ["jar", "corners_here", "spot", "odd", "bads", "bad", "good", "one", "thing_here"] ["jar"] (defScope s__law_odd_right) := ⟨rfl, rfl, rfl, by decide +kernel, rfl, by decide +kernel, by decide +kernel⟩
abbrev s_law : Stmt := top 25
theorem sc_law : FnScope ["script", "k", "jar", "turn", "squares_like", "told", "one"] ["script"] (defScope s_law) := ⟨rfl, rfl, rfl, by decide +kernel, rfl, by decide +kernel, by decide +kernel⟩
def fn : List Df := [
  ⟨fun K => He.ga K "is_whole", "is_whole", "is_whole", s_is_whole⟩,
  ⟨fun K => He.ga K "is_whole_list", "is_whole_list", "is_whole_list", s_is_whole_list⟩,
  ⟨fun K => He.ga K "is_whole_tuple", "is_whole_tuple", "is_whole_tuple", s_is_whole_tuple⟩,
  ⟨fun K => He.ga K "is_price", "is_price", "is_price", s_is_price⟩,
  ⟨fun K => He.ga K "check_price", "check_price", "check_price", s_check_price⟩,
  ⟨fun K => He.ga K "_price_of", "_price_of", "_price_of", s__price_of⟩,
  ⟨fun K => He.ga K "price_at", "price_at", "price_at", s_price_at⟩,
  ⟨fun K => He.ga K "cost_of", "cost_of", "cost_of", s_cost_of⟩,
  ⟨fun K => He.ga K "_law_jar", "_law_jar", "_law_jar", s__law_jar⟩,
  ⟨fun K => He.ga K "_law_dip", "_law_dip", "_law_dip", s__law_dip⟩,
  ⟨fun K => He.ga K "_law_price", "_law_price", "_law_price", s__law_price⟩,
  ⟨fun K => He.ga K "_law_cost", "_law_cost", "_law_cost", s__law_cost⟩,
  ⟨fun K => He.ga K "_law_steps", "_law_steps", "_law_steps", s__law_steps⟩,
  ⟨fun K => He.ga K "_law_prices_right", "_law_prices_right", "_law_prices_right", s__law_prices_right⟩,
  ⟨fun K => He.ga K "_law_odd_right", "_law_odd_right", "_law_odd_right", s__law_odd_right⟩,
  ⟨fun K => He.ga K "law", "law", "law", s_law⟩]
def fa : List Fb := [.b (.free "isinstance"),
  .b (.free "bool"),
  .b (.free "int"),
  .b (.glo "is_whole"),
  .b (.free "all"),
  .b (.free "len"),
  .b (.int "MOST_TIMES" 200),
  .b (.free "list"),
  .b (.glo "is_whole_list"),
  .b (.free "tuple"),
  .b (.glo "is_whole_tuple"),
  .b (.free "zip"),
  .b (.int "MOST_CORNERS" 12),
  .b (.glo "is_price"),
  .b (.glo "check_price"),
  .b (.free "sum"),
  .b (.free "max"),
  .b (.glo "_price_of"),
  .b (.glo "price_at"),
  .b (.glo "cost_of"),
  .b (.free "abs"),
  .b (.glo "_law_jar"),
  .b (.glo "_law_dip"),
  .b (.free "sorted"),
  .b (.free "range"),
  .b (.glo "_law_price"),
  .b (.glo "_law_cost"),
  .b (.glo "_law_steps"),
  .b (.free "repr"),
  .b (.glo "_law_prices_right"),
  .b (.glo "_law_odd_right"),
  .b (.free "min"),
  .b (.glo "law")]

set_option Elab.async false
set_option linter.all false
set_option maxRecDepth 100000
set_option maxHeartbeats 4000000
local macro_rules | `(tactic| walk_at "ev.mem") => `(tactic| focus (repeat (first | exact List.Mem.head _ | refine' List.Mem.tail _ ?_)))
local macro_rules | `(tactic| walk_at "ev.hg") => `(tactic| first | assumption | exact upd_same | (refine' Z.get ?z ?m; (case z => assumption); (case m => walk_at "ev.mem")) | (refine' ZJ.get ?z ?m; (case z => assumption); (case m => walk_at "ev.mem")) | (refine' Z.keep ?z ?h ?n; (case z => assumption); (case h => assumption); (case n => first | (simp; done) | (simp; first | assumption | (apply Ne.symm; assumption)))) | (refine' ZJ.keep ?z ?h ?n; (case z => assumption); (case h => assumption); (case n => first | assumption | (apply Ne.symm; assumption))))
local macro_rules | `(tactic| walk_at "ev.sq") => `(tactic| first | assumption | (apply SqL.of; walk_at "ev.hg"))
local macro_rules | `(tactic| walk_at "ev.st") => `(tactic| first | assumption | (apply SqT.of; walk_at "ev.hg"))
local macro_rules | `(tactic| walk_at "ev.sz") => `(tactic| first | exact Nat.le_of_ble_eq_true rfl | (apply small1000'; simp; done) | (apply small1000'; simp; omega) | (apply small1000'; simp only [List.length_map, List.length_append, List.length_range, List.length_reverse, List.length_cons, List.length_nil, List.length_set]; omega))
local macro_rules | `(tactic| walk_at "ev.szl") => `(tactic| first | exact Nat.le_of_ble_eq_true rfl | (apply smalllt'; simp; done) | (apply smalllt'; simp; omega) | (apply smalllt'; simp only [List.length_map, List.length_append, List.length_range, List.length_reverse, List.length_cons, List.length_nil, List.length_set]; omega))
local macro_rules | `(tactic| walk_at "ev.1") => `(tactic| with_reducible first
  | refine' r_seq ?_ | refine' r_asg ?_ | refine' r_op ?_ | (refine' r_var ?v ?_; (case v => k_dflt exact rfl)) | refine' r_c ?_ | refine' r_name ?_ | refine' r_I0 ?_
  | (refine' r_I ?c ?_; (case c => k_dflt exact pow10 (by decide)))
  | refine' r_cons ?_ | refine' r_nil ?_ | refine' r_call ?_ | refine' r_drop ?_ | refine' r_ret ?_ | refine' r_ifs ?_ | refine' r_test ?_ | refine' r_exif ?_ | refine' r_un ?_ | refine' r_U ?_
  | (refine' r_ixL ?s ?_; (case s => k_dflt walk_at "ev.sq")) | (refine' r_ixT ?s ?_; (case s => k_dflt walk_at "ev.st")) | (refine' r_at ?e ?_; (case e => k_dflt exact rfl)) | (refine' r_ixn ?e ?_; (case e => k_dflt exact rfl)) | (refine' r_ixST (r_ixT ?s ?_); (case s => k_dflt walk_at "ev.st")) | (refine' r_ixSL (r_ixL ?s ?_); (case s => k_dflt walk_at "ev.sq"))
  | refine' r_cb ?_ | refine' r_B ?_ | refine' r_and ?_ | refine' r_or ?_ | refine' r_not ?_ | refine' r_andV ?_ | refine' r_orV ?_ | refine' r_notV ?_ | refine' r_if ?_
  | refine' iteT ?_ | refine' iteF ?_ | refine' iteNT ?_ | refine' iteNF ?_ | refine' r_chain ?_
  | (refine' r_gtup ?s ?e ?_; (case s => k_dflt walk_at "ev.st"); (case e => k_dflt exact rfl)) | refine' r_gcons ?_ | refine' r_gnil ?_ | refine' r_gsub ?_
  | (refine' r_setL ?s ?_; (case s => k_dflt walk_at "ev.hg")) | refine' r_tup ?_ | refine' r_lst ?_
  | refine' r_bm ?_ | (refine' r_tyL ?s ?_; (case s => k_dflt walk_at "ev.hg")) | (refine' r_app ?s ?e ?_; (case s => k_dflt walk_at "ev.hg"); (case e => k_dflt walk_at "ev.szl"))
  | refine' r_sl ?_ | refine' r_part ?_ | refine' r_exint ?_ | refine' r_nopart ?_ | (refine' r_slL ?s ?_; (case s => k_dflt walk_at "ev.sq")) | refine' r_revL ?_ | (refine' r_exrev ?s ?_; (case s => k_dflt walk_at "ev.sq"))
  | (refine' r_eq ?e ?_; (case e => k_dflt exact rfl)) | (refine' r_ne ?e ?_; (case e => k_dflt exact rfl)) | refine' r_par ?_ | refine' r_expar ?_ | refine' r_par3 ?_ | refine' r_expar3 ?_ | refine' r_methK ?_ | refine' r_callKw ?_ | refine' r_ckw ?_ | refine' r_zipL ?_ | refine' r_augS ?_ | refine' r_ipI ?_ | refine' r_ienumS ?_ | (refine' r_sum ?s ?_; (case s => k_dflt walk_at "ev.sq")) | (refine' r_glst ?s ?e ?_; (case s => k_dflt walk_at "ev.sq"); (case e => k_dflt exact rfl))
  | (refine' r_cat ?a ?b ?e ?_; (case a => k_dflt walk_at "ev.hg"); (case b => k_dflt walk_at "ev.hg"); (case e => k_dflt walk_at "ev.sz"))
  | refine' r_for ?_ | refine' r_lc ?_ | refine' r_ilist ?_ | (refine' r_exil ?s ?_; (case s => k_dflt walk_at "ev.sq")) | refine' r_itup ?_ | (refine' r_exit ?s ?_; (case s => k_dflt walk_at "ev.st"))
  | refine' r_irng1 ?_ | refine' r_irng2 ?_ | refine' r_irng3 ?_ | refine' r_izip ?_ | refine' r_izip3 ?_ | refine' r_izip4 ?_ | (refine' r_exz3 ?a ?b ?c ?_; (case a => k_dflt walk_at "ev.sq"); (case b => k_dflt walk_at "ev.sq"); (case c => k_dflt walk_at "ev.sq")) | (refine' r_exz4 ?a ?b ?c ?d ?_; (case a => k_dflt walk_at "ev.sq"); (case b => k_dflt walk_at "ev.sq"); (case c => k_dflt walk_at "ev.sq"); (case d => k_dflt walk_at "ev.sq")) | refine' r_ienum ?_
  | (refine' r_exz ?a ?b ?_; (case a => k_dflt walk_at "ev.sq"); (case b => k_dflt walk_at "ev.sq")) | (refine' r_exen ?a ?_; (case a => k_dflt walk_at "ev.sq"))
  | refine' r_yes ?_ | (refine' r_len ?s ?_; (case s => k_dflt walk_at "ev.sq")) | (refine' r_lenT ?s ?_; (case s => k_dflt walk_at "ev.st")) | refine' r_int1 ?_ | refine' r_int2 ?_ | refine' r_int3 ?_
  | (refine' r_mk ?e ?_; (case e => k_dflt exact Nat.le_of_ble_eq_true rfl))
  | refine' r_make ?_ | refine' r_meth ?_ | refine' r_prop ?_ | refine' r_fld ?_ | refine' r_sfld ?_ | refine' r_next ?_)
local macro_rules | `(tactic| walk_at "ev") => `(tactic| repeat walk_at "ev.1")
local macro_rules | `(tactic| walk_at "ev0") => `(tactic| (dsimp only [cxOf, Cx.nox]; walk_at "ev"))

section
variable {P : Program} {w : World} {K : PySem.W.Frag} {mg : Str → Option Value} {base : Heap}
/-! ## is_whole -/
def sp_is_whole (K : PySem.W.Frag) : Sp := fun vs H Q _ => ∃ v t b1 b2, vs = [v] ∧ TyX K H v t ∧ PySem.W.kitOne K t (.type "int") = some b1 ∧ PySem.W.kitOne K t (.type "bool") = some b2 ∧ Q (.bl (b1 && !b2)) H
theorem k_is_whole (T : Tx fa fn K mg base) : Fk P w K mg base "is_whole" ["thing"] 1 (sp_is_whole K) s_is_whole "is_whole" := by
  refine T.fk 0 3 (q := "is_whole") (st := s_is_whole) sc_is_whole (fun _ _ _ _ _ _ us hl => match us, hl with | [_], _ => rfl) (fun vs H Q E h => ?_) (fun cdv A outer s H vs Q E hr h => ?_)
  · obtain ⟨v, t, b1, b2, rfl, _⟩ := h
    rfl
  · obtain ⟨v, t, b1, b2, rfl, ty, h1, h2, k⟩ := h
    refine ⟨_, (pss_one (ps_ret (pe_and (pe_callB call_isi (by rfl) (T.fr 0) (by decide +kernel) (pa_cons (pv 0) (pa_cons (pe_bltn (v := .ty "int") (u := .type "int") (by rfl) (T.fr 2) (by decide +kernel) rfl) pa_nil))) (pe_one (pe_not (pe_callB call_isi (by rfl) (T.fr 0) (by decide +kernel) (pa_cons (pv 0) (pa_cons (pe_bltn (v := .ty "bool") (u := .type "bool") (by rfl) (T.fr 1) (by decide +kernel) rfl) pa_nil)))))))), ?_⟩
    walk_at "ev0"
    refine r_isi (.ty _) ty h1 ?_
    walk_at "ev"
    cases b1 with
    | false => exact iteF k
    | true =>
      refine iteT ?_
      walk_at "ev"
      refine r_isi (.ty _) ty h2 ?_
      walk_at "ev"
      exact k
theorem whole_int {K : PySem.W.Frag} {H : Hp} {Q : VK} {i : Int} (k : Q (.bl true) H) : sp_is_whole K ([V.int i] ++ []) H Q E0 :=
  ⟨_, _, true, false, rfl, .base (.int i), kit_ty (by decide +kernel), kit_ty (by decide +kernel), k⟩
/-! ## is_whole_list, of a list of integers -/
def sp_is_whole_list (K : PySem.W.Frag) : Sp := fun vs H Q _ => ∃ (a : Addr) (ns : List Int), vs = [.ref a] ∧ H a = some (.lst (ns.map V.int)) ∧ (1 ≤ ns.length ∧ ns.length ≤ 200) ∧ ∀ H', Fr [] H H' → Q (.bl true) H'
theorem k_is_whole_list (T : Tx fa fn K mg base) : Fk P w K mg base "is_whole_list" ["thing"] 2 (sp_is_whole_list K) s_is_whole_list "is_whole_list" := by
  refine T.fk 1 8 (q := "is_whole_list") (st := s_is_whole_list) sc_is_whole_list (fun _ _ _ _ _ _ us hl => match us, hl with | [_], _ => rfl) (fun vs H Q E h => ?_) (fun cdv A outer s H vs Q E hr h => ?_)
  · obtain ⟨a, ns, rfl, _⟩ := h
    rfl
  · obtain ⟨a, ns, rfl, ha, hn, k⟩ := h
    have hl : (ns.map V.int).length = ns.length := List.length_map _
    refine ⟨_, (pss_cons (ps_if (PW.pt (pw_or (pt_not (pt_val (pe_callB call_isi (by rfl) (T.fr 0) (by decide +kernel) (pa_cons (pv 0) (pa_cons (pe_bltn (v := .ty "list") (u := .type "list") (by rfl) (T.fr 7) (by decide +kernel) rfl) pa_nil))))) (pw_or1 (pt_not (pt_chain op_le op_le pe_int (pe_callB call_len_seq (by rfl) (T.fr 5) (by decide +kernel) (pa_cons (pv 0) pa_nil)) (pe_globI (T.int 6))))))) (pss_one (ps_ret pe_bl)) pss_nil)
      (pss_one (ps_ret (pe_callB (cr_all rfl) (by rfl) (T.fr 4) (by decide +kernel) (pa_cons (pe_lc (own := [("entry", 1)]) (tt := tYes) (te := (tCall (sp_is_whole K) [] E0 (tCons (tVar 1) tNil))) rfl sc_is_whole_list.nd (pi_list (pv 0)) (blkOk_by (N := ["thing", "entry"]) (sc := defScope s_is_whole_list) (by decide +kernel)) (fun _ _ _ _ _ => (pg_name (i := 1) sc_is_whole_list.nd rfl (by first | exact Or.inl rfl | exact Or.inr rfl))) (fun _ _ _ _ _ => pts_nil) (fun _ _ _ _ _ => (pe_f (k_is_whole T) hr (pa_cons (pv 1) pa_nil)))) pa_nil))))), ?_⟩
    walk_at "ev0"
    refine r_isi (.ty _) (.base (.lst ha)) (kit_ty (b := "list") (r := true) (by decide +kernel)) ?_
    walk_at "ev"
    refine r_iteY (by omega) ?_
    walk_at "ev"
    refine r_iteNY (by omega) ?_
    walk_at "ev"
    refine lc_pure (walk_list (xs := ns.map V.int)) (fun _ => .bl true) (by omega) (fun H' e => e.sql (SqL.of ha) (fun z => nomatch z)) (fun i H' x H'' y => by rw [y.1]; exact Fr.refl _) (fun i x H' H'' R hi e y kR => ?_) (fun D H' hD e hD' => ?_)
    · obtain ⟨rfl, hx⟩ := y
      rw [nth_at hx]
      walk_at "ev"
      refine ⟨rfl, ?_⟩
      walk_at "ev"
      exact whole_int (kR _ (Fr.refl _))
    · walk_at "ev"
      refine r_all (bs := (List.range (ns.map V.int).length).map fun _ => true) (SqL.of (by rw [List.map_map]; exact hD')) ?_
      have e2 : ((List.range (ns.map V.int).length).map fun _ => true).all id = true := by simp
      rw [e2]
      exact k H' e
/-! ## is_at_most -/
def sp_is_at_most (K : PySem.W.Frag) : Sp := fun vs H Q _ => ∃ (a b : Addr) (ns ms : List Int), vs = [.ref a, .ref b] ∧ H a = some (.lst (ns.map V.int)) ∧ H b = some (.lst (ms.map V.int)) ∧ ns.length ≤ 10000 ∧ ∀ H', Fr [] H H' → Q (.bl (leAll ns ms)) H'
end

set_option Elab.async false
set_option linter.all false
set_option maxRecDepth 100000
set_option maxHeartbeats 4000000
/-! ## any objects: data as they lie -/
inductive Od where
  | non
  | bl (b : Bool)
  | int (i : Int)
  | str (s : Str)
  | lst (l : List Od)
  | tup (l : List Od)
  | dic
mutual
/-- an object lies as d says -/
inductive OAt (H : Hp) : V → Od → Prop where
  | non : OAt H .non .non
  | bl (b : Bool) : OAt H (.bl b) (.bl b)
  | int (i : Int) : OAt H (.int i) (.int i)
  | str (s : Str) : OAt H (.str s) (.str s)
  | lst {a : Addr} {xs : List V} {ds : List Od} (h : H a = some (.lst xs)) (t : OAll H xs ds) : OAt H (.ref a) (.lst ds)
  | tup {a : Addr} {xs : List V} {ds : List Od} (h : H a = some (.tup xs)) (t : OAll H xs ds) : OAt H (.ref a) (.tup ds)
  | dic {a : Addr} (h : H a = some (.dK [])) : OAt H (.ref a) .dic
inductive OAll (H : Hp) : List V → List Od → Prop where
  | nil : OAll H [] []
  | cons {v : V} {vs : List V} {d : Od} {ds : List Od} (h : OAt H v d) (t : OAll H vs ds) : OAll H (v :: vs) (d :: ds)
end
mutual
theorem OAt.mono {H H' : Hp} (f : Fr [] H H') : ∀ {v : V} {d : Od}, OAt H v d → OAt H' v d
  | _, _, .non => .non
  | _, _, .bl b => .bl b
  | _, _, .int i => .int i
  | _, _, .str s => .str s
  | _, _, .lst h t => .lst (f _ _ (fun m => nomatch m) h) (OAll.mono f t)
  | _, _, .tup h t => .tup (f _ _ (fun m => nomatch m) h) (OAll.mono f t)
  | _, _, .dic h => .dic (f _ _ (fun m => nomatch m) h)
theorem OAll.mono {H H' : Hp} (f : Fr [] H H') : ∀ {vs : List V} {ds : List Od}, OAll H vs ds → OAll H' vs ds
  | _, _, .nil => .nil
  | _, _, .cons h t => .cons (OAt.mono f h) (OAll.mono f t)
end
theorem OAll.length {H : Hp} : ∀ {vs : List V} {ds : List Od}, OAll H vs ds → vs.length = ds.length
  | _, _, .nil => rfl
  | _, _, .cons _ t => by rw [List.length_cons, List.length_cons, OAll.length t]
theorem OAll.get {H : Hp} : ∀ {vs : List V} {ds : List Od} {i : Nat} {v : V}, OAll H vs ds → vs[i]? = some v → ∃ d, ds[i]? = some d ∧ OAt H v d
  | _, _, 0, _, .cons h _, e => by cases e; exact ⟨_, rfl, h⟩
  | _, _, i + 1, _, .cons (vs := vs) (ds := ds) _ t, e => by
    rw [List.getElem?_cons_succ] at e
    obtain ⟨d, h1, h2⟩ := OAll.get t e
    exact ⟨d, by rw [List.getElem?_cons_succ]; exact h1, h2⟩
theorem OAll.append {H : Hp} : ∀ {vs us : List V} {ds es : List Od}, OAll H vs ds → OAll H us es → OAll H (vs ++ us) (ds ++ es)
  | _, _, _, _, .nil, u => u
  | _, _, _, _, .cons h t, u => .cons h (t.append u)
theorem OAll.take {H : Hp} : ∀ {vs : List V} {ds : List Od} (n : Nat), OAll H vs ds → OAll H (vs.take n) (ds.take n)
  | _, _, 0, _ => .nil
  | _, _, _ + 1, .nil => .nil
  | _, _, n + 1, .cons h t => .cons h (t.take n)
theorem OAll.drop {H : Hp} : ∀ {vs : List V} {ds : List Od} (n : Nat), OAll H vs ds → OAll H (vs.drop n) (ds.drop n)
  | _, _, 0, h => h
  | _, _, _ + 1, .nil => .nil
  | _, _, n + 1, .cons _ t => t.drop n
theorem OAll.reverse {H : Hp} : ∀ {vs : List V} {ds : List Od}, OAll H vs ds → OAll H vs.reverse ds.reverse
  | _, _, .nil => .nil
  | _, _, .cons h t => by
    rw [List.reverse_cons, List.reverse_cons]
    exact t.reverse.append (.cons h .nil)
/-- its type -/
def Od.ty : Od → String
  | .non => "NoneType"
  | .bl _ => "bool"
  | .int _ => "int"
  | .str _ => "str"
  | .lst _ => "list"
  | .tup _ => "tuple"
  | .dic => "dict"
theorem OAt.tyX {K : PySem.W.Frag} {H : Hp} {v : V} {d : Od} (h : OAt H v d) : TyX K H v (.type d.ty) := by
  cases h with
  | non => exact .base .non
  | bl b => exact .base (.bl b)
  | int i => exact .base (.int i)
  | str s => exact .base (.str s)
  | lst h _ => exact .base (.lst h)
  | tup h _ => exact .base (.tup h)
  | dic h => exact .base (.dK h)
def Od.isT : Od → Bool
  | .tup _ => true
  | _ => false
def Od.isL : Od → Bool
  | .lst _ => true
  | _ => false
def Od.wh : Od → Bool
  | .int _ => true
  | _ => false
theorem Od.kitT {K : PySem.W.Frag} (d : Od) : PySem.W.kitOne K (.type d.ty) (.type "tuple") = some d.isT := by
  cases d with
  | non => exact kit_ty (a := "NoneType") (b := "tuple") (r := false) (by decide +kernel)
  | bl _ => exact kit_ty (a := "bool") (b := "tuple") (r := false) (by decide +kernel)
  | int _ => exact kit_ty (a := "int") (b := "tuple") (r := false) (by decide +kernel)
  | str _ => exact kit_ty (a := "str") (b := "tuple") (r := false) (by decide +kernel)
  | lst _ => exact kit_ty (a := "list") (b := "tuple") (r := false) (by decide +kernel)
  | tup _ => exact kit_ty (a := "tuple") (b := "tuple") (r := true) (by decide +kernel)
  | dic => exact kit_ty (a := "dict") (b := "tuple") (r := false) (by decide +kernel)
theorem Od.kitL {K : PySem.W.Frag} (d : Od) : PySem.W.kitOne K (.type d.ty) (.type "list") = some d.isL := by
  cases d with
  | non => exact kit_ty (a := "NoneType") (b := "list") (r := false) (by decide +kernel)
  | bl _ => exact kit_ty (a := "bool") (b := "list") (r := false) (by decide +kernel)
  | int _ => exact kit_ty (a := "int") (b := "list") (r := false) (by decide +kernel)
  | str _ => exact kit_ty (a := "str") (b := "list") (r := false) (by decide +kernel)
  | lst _ => exact kit_ty (a := "list") (b := "list") (r := true) (by decide +kernel)
  | tup _ => exact kit_ty (a := "tuple") (b := "list") (r := false) (by decide +kernel)
  | dic => exact kit_ty (a := "dict") (b := "list") (r := false) (by decide +kernel)
theorem Od.kitW {K : PySem.W.Frag} (d : Od) : ∃ b1 b2, PySem.W.kitOne K (.type d.ty) (.type "int") = some b1 ∧ PySem.W.kitOne K (.type d.ty) (.type "bool") = some b2 ∧ (b1 && !b2) = d.wh := by
  cases d with
  | non => exact ⟨false, false, kit_ty (a := "NoneType") (b := "int") (by decide +kernel), kit_ty (a := "NoneType") (b := "bool") (by decide +kernel), rfl⟩
  | bl _ => exact ⟨true, true, kit_ty (a := "bool") (b := "int") (by decide +kernel), kit_ty (a := "bool") (b := "bool") (by decide +kernel), rfl⟩
  | int _ => exact ⟨true, false, kit_ty (a := "int") (b := "int") (by decide +kernel), kit_ty (a := "int") (b := "bool") (by decide +kernel), rfl⟩
  | str _ => exact ⟨false, false, kit_ty (a := "str") (b := "int") (by decide +kernel), kit_ty (a := "str") (b := "bool") (by decide +kernel), rfl⟩
  | lst _ => exact ⟨false, false, kit_ty (a := "list") (b := "int") (by decide +kernel), kit_ty (a := "list") (b := "bool") (by decide +kernel), rfl⟩
  | tup _ => exact ⟨false, false, kit_ty (a := "tuple") (b := "int") (by decide +kernel), kit_ty (a := "tuple") (b := "bool") (by decide +kernel), rfl⟩
  | dic => exact ⟨false, false, kit_ty (a := "dict") (b := "int") (by decide +kernel), kit_ty (a := "dict") (b := "bool") (by decide +kernel), rfl⟩
theorem whole_od {K : PySem.W.Frag} {H : Hp} {Q : VK} {v : V} {d : Od} (h : OAt H v d) (k : Q (.bl d.wh) H) : sp_is_whole K ([v] ++ []) H Q E0 := by
  obtain ⟨b1, b2, h1, h2, e⟩ := d.kitW (K := K)
  exact ⟨v, _, b1, b2, rfl, h.tyX, h1, h2, by rw [e]; exact k⟩
theorem r_isT {K : PySem.W.Frag} {H : Hp} {Q : VK} {v : V} {d : Od} (h : OAt H v d) (q : Q (.bl d.isT) H) : rIsi K [v, .ty "tuple"] H Q := r_isi (.ty _) h.tyX d.kitT q
theorem r_isLo {K : PySem.W.Frag} {H : Hp} {Q : VK} {v : V} {d : Od} (h : OAt H v d) (q : Q (.bl d.isL) H) : rIsi K [v, .ty "list"] H Q := r_isi (.ty _) h.tyX d.kitL q
/-- a tuple of two integers -/
def Od.pair : Od → Bool
  | .tup l => decide (l.length = 2) && l.all Od.wh
  | _ => false
def Od.fst : Od → Int
  | .tup (.int v :: _) => v
  | _ => 0
def Od.snd : Od → Int
  | .tup (_ :: .int v :: _) => v
  | _ => 0
theorem Od.pair_is {d : Od} (h : d.pair = true) : d = .tup [.int d.fst, .int d.snd] := by
  match d with
  | .tup [.int v, .int m] => rfl
  | .tup [] => cases h
  | .tup [_] => simp [Od.pair] at h
  | .tup (_ :: _ :: _ :: _) => simp [Od.pair] at h
  | .tup [.int _, .non] => simp [Od.pair, Od.wh] at h
  | .tup [.int _, .bl _] => simp [Od.pair, Od.wh] at h
  | .tup [.int _, .str _] => simp [Od.pair, Od.wh] at h
  | .tup [.int _, .lst _] => simp [Od.pair, Od.wh] at h
  | .tup [.int _, .tup _] => simp [Od.pair, Od.wh] at h
  | .tup [.int _, .dic] => simp [Od.pair, Od.wh] at h
  | .tup [.non, _] => simp [Od.pair, Od.wh] at h
  | .tup [.bl _, _] => simp [Od.pair, Od.wh] at h
  | .tup [.str _, _] => simp [Od.pair, Od.wh] at h
  | .tup [.lst _, _] => simp [Od.pair, Od.wh] at h
  | .tup [.tup _, _] => simp [Od.pair, Od.wh] at h
  | .tup [.dic, _] => simp [Od.pair, Od.wh] at h
  | .non => cases h
  | .bl _ => cases h
  | .int _ => cases h
  | .str _ => cases h
  | .lst _ => cases h
  | .dic => cases h
/-- whether an object is a price -/
def cornersOk (cs : List Od) : Bool := ((List.range (cs.length - 1)).all fun i => decide ((cs.getD i .non).fst < (cs.getD (i + 1) .non).fst)) && (List.range cs.length).all fun i => decide (1 ≤ (cs.getD i .non).snd)
def Od.price : Od → Bool
  | .tup [s, .lst cs] => s.wh && (decide (cs.length ≤ 12) && (cs.all Od.pair && cornersOk cs))
  | _ => false

set_option Elab.async false
set_option linter.all false
set_option maxRecDepth 100000
set_option maxHeartbeats 4000000

section
variable {P : Program} {w : World} {K : PySem.W.Frag} {mg : Str → Option Value} {base : Heap}
theorem all_get {α : Type} (l : List α) (x : α) (p : α → Bool) : ((List.range l.length).map fun i => p (l.getD i x)).all id = l.all p := by
  have e : ((List.range l.length).map fun i => p (l.getD i x)) = l.map p := by
    refine List.ext_getElem (by simp) fun i h1 h2 => ?_
    have hi : i < l.length := by simpa using h1
    rw [List.getElem_map, List.getElem_range, List.getElem_map, List.getD_eq_getElem?_getD, List.getElem?_eq_getElem hi]
    rfl
  rw [e, List.all_map]
  rfl
theorem OAll.at {H : Hp} {vs : List V} {ds : List Od} {i : Nat} {v : V} (h : OAll H vs ds) (e : vs[i]? = some v) : OAt H v (ds.getD i .non) := by
  obtain ⟨d, e2, h2⟩ := h.get e
  rw [List.getD_eq_getElem?_getD, e2]
  exact h2
def sp_is_whole_tuple (K : PySem.W.Frag) : Sp := fun vs H Q _ => ∃ (v : V) (d : Od), vs = [v, .int 2] ∧ OAt H v d ∧ (∀ l, d = .tup l → l.length ≤ 1000) ∧ ∀ H', Fr [] H H' → Q (.bl d.pair) H'
theorem k_is_whole_tuple (T : Tx fa fn K mg base) : Fk P w K mg base "is_whole_tuple" ["thing", "many"] 2 (sp_is_whole_tuple K) s_is_whole_tuple "is_whole_tuple" := by
  refine T.fk 2 10 (q := "is_whole_tuple") (st := s_is_whole_tuple) sc_is_whole_tuple (fun _ _ _ _ _ _ us hl => match us, hl with | [_, _], _ => rfl) (fun vs H Q E h => ?_) (fun cdv A outer s H vs Q E hr h => ?_)
  · obtain ⟨v, d, rfl, _⟩ := h
    rfl
  · obtain ⟨v, d, rfl, hv, hlim, k⟩ := h
    refine ⟨_, (pss_one (ps_ret (pe_and (pe_callB call_isi (by rfl) (T.fr 0) (by decide +kernel) (pa_cons (pv 0) (pa_cons (pe_bltn (v := .ty "tuple") (u := .type "tuple") (by rfl) (T.fr 9) (by decide +kernel) rfl) pa_nil))) (pe_and (pe_cmpR op_eq (pe_callB call_len_seq (by rfl) (T.fr 5) (by decide +kernel) (pa_cons (pv 0) pa_nil)) (pv 1) (nomark _)) (pe_one (pe_callB (cr_all rfl) (by rfl) (T.fr 4) (by decide +kernel) (pa_cons (pe_lc (own := [("part", 2)]) (tt := tYes) (te := (tCall (sp_is_whole K) [] E0 (tCons (tVar 2) tNil))) rfl sc_is_whole_tuple.nd (pi_tup (pv 0)) (blkOk_by (N := ["thing", "many", "part"]) (sc := defScope s_is_whole_tuple) (by decide +kernel)) (fun _ _ _ _ _ => (pg_name (i := 2) sc_is_whole_tuple.nd rfl (by first | exact Or.inl rfl | exact Or.inr rfl))) (fun _ _ _ _ _ => pts_nil) (fun _ _ _ _ _ => (pe_f (k_is_whole T) hr (pa_cons (pv 2) pa_nil)))) pa_nil))))))), ?_⟩
    walk_at "ev0"
    refine r_isT hv ?_
    walk_at "ev"
    cases hv with
    | tup ha t =>
      rename_i a xs ds
      have hl := t.length
      have hx := hlim ds rfl
      refine iteT ?_
      walk_at "ev"
      refine r_ite (fun c => ?_) (fun c => ?_)
      · have c2 : ds.length = 2 := by
          injection c with c
          omega
        walk_at "ev"
        refine lc_pure (walk_tup (xs := xs)) (fun i => .bl (ds.getD i .non).wh) (by omega) (fun H' e => SqT.of (e _ _ (fun z => nomatch z) ha)) (fun i H' x H'' y => by rw [y.1]; exact Fr.refl _) (fun i x H' H'' R hi e y kR => ?_) (fun D H' hD e hD' => ?_)
        · obtain ⟨rfl, hx⟩ := y
          walk_at "ev"
          refine ⟨rfl, ?_⟩
          walk_at "ev"
          exact whole_od ((t.mono e).at hx) (kR _ (Fr.refl _))
        · walk_at "ev"
          refine r_all (bs := (List.range xs.length).map fun i => (ds.getD i .non).wh) (SqL.of (by rw [List.map_map]; exact hD')) ?_
          rw [hl, all_get]
          have e2 : (Od.tup ds).pair = ds.all Od.wh := by
            show (decide (ds.length = 2) && ds.all Od.wh) = _
            rw [decide_eq_true c2, Bool.true_and]
          rw [e2] at k
          exact k _ e
      · have c2 : ¬ ds.length = 2 := fun e => c (by rw [hl, e]; rfl)
        have e2 : (Od.tup ds).pair = false := by
          show (decide (ds.length = 2) && ds.all Od.wh) = _
          rw [decide_eq_false c2, Bool.false_and]
        rw [e2] at k
        exact k _ (Fr.refl _)
    | _ => exact iteF (k _ (Fr.refl _))

theorem cut_from1 (xs : List V) : cutV xs (some 1) none = xs.drop 1 := by
  unfold cutV
  rw [HT.sIx_none]
  cases xs with
  | nil => rfl
  | cons x r =>
    rw [show HT.sIx (x :: r).length 0 (some 1) = min 1 (x :: r).length from by
      unfold HT.sIx
      simp]
    rw [show min 1 (x :: r).length = 1 by simp]
    rw [List.take_of_length_le (by simp)]
theorem pair_at {H : Hp} {v : V} {d : Od} (h : OAt H v d) (p : d.pair = true) : ∃ a, v = .ref a ∧ H a = some (.tup [.int d.fst, .int d.snd]) := by
  have e := d.pair_is p
  cases h with
  | tup ha t =>
    rename_i a xs ds
    injection e with e
    have e1 : ds = [.int (Od.tup ds).fst, .int (Od.tup ds).snd] := e
    refine ⟨a, rfl, ?_⟩
    rw [e1] at t
    cases t with
    | cons h1 t =>
      cases t with
      | cons h2 t =>
        cases t
        cases h1
        cases h2
        exact ha
  | _ => cases p
def Od.lim : Od → Bool
  | .tup [_, .lst cs] => decide (cs.length ≤ 1000) && cs.all fun c => match c with
    | .tup l => decide (l.length ≤ 1000)
    | _ => true
  | _ => true
def sp_is_price (K : PySem.W.Frag) : Sp := fun vs H Q _ => ∃ (v : V) (d : Od), vs = [v] ∧ OAt H v d ∧ d.lim = true ∧ ∀ H', Fr [] H H' → Q (.bl d.price) H'
theorem k_is_price (T : Tx fa fn K mg base) : Fk P w K mg base "is_price" ["thing"] 3 (sp_is_price K) s_is_price "is_price" := by
  refine T.fk 3 13 (q := "is_price") (st := s_is_price) sc_is_price (fun _ _ _ _ _ _ us hl => match us, hl with | [_], _ => rfl) (fun vs H Q E h => ?_) (fun cdv A outer s H vs Q E hr h => ?_)
  · obtain ⟨v, d, rfl, _⟩ := h
    rfl
  · obtain ⟨v, d, rfl, hv, hlim, k⟩ := h
    refine ⟨_, (pss_cons (ps_if (PW.pt (pw_or (pt_not (pt_val (pe_callB call_isi (by rfl) (T.fr 0) (by decide +kernel) (pa_cons (pv 0) (pa_cons (pe_bltn (v := .ty "tuple") (u := .type "tuple") (by rfl) (T.fr 9) (by decide +kernel) rfl) pa_nil))))) (pw_or1 (pt_cmpR op_ne (pe_callB call_len_seq (by rfl) (T.fr 5) (by decide +kernel) (pa_cons (pv 0) pa_nil)) pe_int (nomark _))))) (pss_one (ps_ret pe_bl)) pss_nil)
      (pss_cons (ps_asg (pv 0) (pg_tup rfl (pgs_cons (pg_name (i := 1) sc_is_price.nd rfl (by first | exact Or.inl rfl | exact Or.inr rfl)) (pgs_cons (pg_name (i := 2) sc_is_price.nd rfl (by first | exact Or.inl rfl | exact Or.inr rfl)) pgs_nil))))
      (pss_cons (ps_if (PW.pt (pw_or (pt_not (pt_val (pe_f (k_is_whole T) hr (pa_cons (pv 1) pa_nil)))) (pw_or (pt_not (pt_val (pe_callB call_isi (by rfl) (T.fr 0) (by decide +kernel) (pa_cons (pv 2) (pa_cons (pe_bltn (v := .ty "list") (u := .type "list") (by rfl) (T.fr 7) (by decide +kernel) rfl) pa_nil))))) (pw_or1 (pt_cmpR op_gt (pe_callB call_len_seq (by rfl) (T.fr 5) (by decide +kernel) (pa_cons (pv 2) pa_nil)) (pe_globI (T.int 12)) (nomark _)))))) (pss_one (ps_ret pe_bl)) pss_nil)
      (pss_cons (ps_if (pt_not (pt_val (pe_callB (cr_all rfl) (by rfl) (T.fr 4) (by decide +kernel) (pa_cons (pe_lc (own := [("corner", 4)]) (tt := tYes) (te := (tCall (sp_is_whole_tuple K) [] E0 (tCons (tVar 4) (tCons (tC (.int 2)) tNil)))) rfl sc_is_price.nd (pi_list (pv 2)) (blkOk_by (N := ["thing", "slope", "corners", "ascends", "corner", "value", "_", "behind", "more"]) (sc := defScope s_is_price) (by decide +kernel)) (fun _ _ _ _ _ => (pg_name (i := 4) sc_is_price.nd rfl (by first | exact Or.inl rfl | exact Or.inr rfl))) (fun _ _ _ _ _ => pts_nil) (fun _ _ _ _ _ => (pe_f (k_is_whole_tuple T) hr (pa_cons (pv 4) (pa_cons pe_int pa_nil))))) pa_nil)))) (pss_one (ps_ret pe_bl)) pss_nil)
      (pss_cons (ps_set (i := 3) sc_is_price.nd rfl (by first | exact Or.inl rfl | exact Or.inr rfl) (pe_callB (cr_all rfl) (by rfl) (T.fr 4) (by decide +kernel) (pa_cons (pe_lc (own := [("value", 5), ("_", 6), ("behind", 7)]) (tt := tYes) (g := (gTup K 2 (gCons (gTup K 2 (gCons (gName 5) (gCons (gName 6) gNil))) (gCons (gTup K 2 (gCons (gName 7) (gCons (gName 6) gNil))) gNil)))) (te := (tOp (rI0 fun i j => .bl (decide (i < j))) (tVar 5) (tVar 7))) rfl sc_is_price.nd (pi_zip (by rfl) (T.fr 11) (pa_cons (pv 2) (pa_cons (pe_slice sl_list (pv 2) (po_some pe_int) po_none) pa_nil))) (blkOk_by (N := ["thing", "slope", "corners", "ascends", "corner", "value", "_", "behind", "more"]) (sc := defScope s_is_price) (by decide +kernel)) (fun _ _ _ _ _ => (pg_tup rfl (pgs_cons (pg_tup rfl (pgs_cons (pg_name (i := 5) sc_is_price.nd rfl (by first | exact Or.inl rfl | exact Or.inr rfl)) (pgs_cons (pg_name (i := 6) sc_is_price.nd rfl (by first | exact Or.inl rfl | exact Or.inr rfl)) pgs_nil))) (pgs_cons (pg_tup rfl (pgs_cons (pg_name (i := 7) sc_is_price.nd rfl (by first | exact Or.inl rfl | exact Or.inr rfl)) (pgs_cons (pg_name (i := 6) sc_is_price.nd rfl (by first | exact Or.inl rfl | exact Or.inr rfl)) pgs_nil))) pgs_nil)))) (fun _ _ _ _ _ => pts_nil) (fun _ _ _ _ _ => (pe_cmpR op_lt (pv 5) (pv 7) (nomark _)))) pa_nil)))
      (pss_one (ps_ret (pe_and (pv 3) (pe_one (pe_callB (cr_all rfl) (by rfl) (T.fr 4) (by decide +kernel) (pa_cons (pe_lc (own := [("_", 6), ("more", 8)]) (tt := tYes) (g := (gTup K 2 (gCons (gName 6) (gCons (gName 8) gNil)))) (te := (tOp (rI0 fun i j => .bl (decide (j ≤ i))) (tVar 8) (tC (.int 1)))) rfl sc_is_price.nd (pi_list (pv 2)) (blkOk_by (N := ["thing", "slope", "corners", "ascends", "corner", "value", "_", "behind", "more"]) (sc := defScope s_is_price) (by decide +kernel)) (fun _ _ _ _ _ => (pg_tup rfl (pgs_cons (pg_name (i := 6) sc_is_price.nd rfl (by first | exact Or.inl rfl | exact Or.inr rfl)) (pgs_cons (pg_name (i := 8) sc_is_price.nd rfl (by first | exact Or.inl rfl | exact Or.inr rfl)) pgs_nil)))) (fun _ _ _ _ _ => pts_nil) (fun _ _ _ _ _ => (pe_cmpR op_ge (pv 8) pe_int (nomark _)))) pa_nil))))))))))), ?_⟩
    walk_at "ev0"
    refine r_isT hv ?_
    walk_at "ev"
    cases hv with
    | tup ha t =>
      rename_i a xs ds
      have hl := t.length
      refine iteNT ?_
      walk_at "ev"
      refine r_iteN (fun c => ?_) (fun c => ?_)
      · walk_at "ev"
        have c2 : ¬ ds.length = 2 := fun e => c (by rw [hl, e]; rfl)
        have e2 : (Od.tup ds).price = false := by
          match ds, c2 with
          | [], _ => rfl
          | [_], _ => rfl
          | _ :: d2 :: _ :: _, _ => cases d2 <;> rfl
          | [_, _], h => exact absurd rfl h
        rw [e2] at k
        exact k _ (Fr.refl _)
      · have c2 : ds.length = 2 := by
          injection c with c
          omega
        match ds, xs, t, c2 with
        | [d1, d2], [x1, x2], .cons t1 (.cons t2 .nil), _ =>
          walk_at "ev"
          refine whole_od t1 ?_
          walk_at "ev"
          have pr : ∀ {cs : List Od}, d2 = .lst cs → (Od.tup [d1, d2]).price = (d1.wh && (decide (cs.length ≤ 12) && (cs.all Od.pair && cornersOk cs))) := fun e => by rw [e]; rfl
          have pn : d1.wh = false → (Od.tup [d1, d2]).price = false := fun e => by
            cases d2 with
            | lst cs =>
              show (d1.wh && _) = false
              rw [e, Bool.false_and]
            | _ => rfl
          cases ew : d1.wh with
          | false =>
            rw [pn ew] at k
            walk_at "ev"
            exact k _ (Fr.refl _)
          | true =>
            walk_at "ev"
            refine r_isLo t2 ?_
            walk_at "ev"
            cases t2 with
            | @lst ca ys cs hc tc =>
              have hlc := tc.length
              rw [pr rfl, ew, Bool.true_and] at k
              have lim1 : cs.length ≤ 1000 ∧ ∀ c ∈ cs, ∀ l, c = .tup l → l.length ≤ 1000 := by
                have h2 : (decide (cs.length ≤ 1000) && cs.all fun c => match c with
                  | .tup l => decide (l.length ≤ 1000)
                  | _ => true) = true := hlim
                rw [Bool.and_eq_true, decide_eq_true_eq, List.all_eq_true] at h2
                refine ⟨h2.1, fun c hc l e => ?_⟩
                have := h2.2 c hc
                rw [e] at this
                exact of_decide_eq_true this
              refine iteNT ?_
              walk_at "ev"
              refine r_ite (fun c => ?_) (fun c => ?_)
              · rw [decide_eq_false (show ¬ cs.length ≤ 12 by omega)] at k
                walk_at "ev"
                exact k _ (Fr.refl _)
              · rw [decide_eq_true (show cs.length ≤ 12 by omega), Bool.true_and] at k
                walk_at "ev"
                refine lc_pure (walk_list (xs := ys)) (fun i => .bl (cs.getD i .non).pair) (by omega) (fun H' e => e.sql (SqL.of hc) (fun z => nomatch z)) (fun i H' x H'' y => by rw [y.1]; exact Fr.refl _) (fun i x H' H'' R hi e y kR => ?_) (fun D1 H1 hD e1 hD' => ?_)
                · obtain ⟨rfl, hx⟩ := y
                  walk_at "ev"
                  refine ⟨rfl, ?_⟩
                  walk_at "ev"
                  refine ⟨x, cs.getD i .non, rfl, (tc.mono e).at hx, fun l el => lim1.2 _ ?_ l el, fun H4 f4 => kR _ f4⟩
                  rw [List.getD_eq_getElem?_getD, List.getElem?_eq_getElem (by omega)]
                  exact List.getElem_mem _
                · walk_at "ev"
                  refine r_all (bs := (List.range ys.length).map fun i => (cs.getD i .non).pair) (SqL.of (by rw [List.map_map]; exact hD')) ?_
                  rw [hlc, all_get]
                  walk_at "ev"
                  cases ep : cs.all Od.pair with
                  | false =>
                    rw [ep, Bool.false_and] at k
                    walk_at "ev"
                    exact k _ e1
                  | true =>
                    rw [ep, Bool.true_and] at k
                    have at_ : ∀ (H' : Hp), Fr [] H H' → ∀ (i : Nat) (x : V), ys[i]? = some x → ∃ b, x = .ref b ∧ H' b = some (.tup [.int (cs.getD i .non).fst, .int (cs.getD i .non).snd]) := fun H' f i x hx => by
                      refine pair_at ((tc.mono f).at hx) ?_
                      have hi : i < cs.length := by rw [← hlc]; exact (List.getElem?_eq_some_iff.mp hx).1
                      rw [List.getD_eq_getElem?_getD, List.getElem?_eq_getElem hi]
                      exact List.all_eq_true.mp ep _ (List.getElem_mem _)
                    have hc1 := e1 _ _ (fun z => nomatch z) hc
                    walk_at "ev"
                    rw [cut_from1]
                    intro s2 k2
                    have z2 := (Z.start0 H1).alloc (.lst (ys.drop 1)) k2
                    have hc2 := z2.keep hc1 (by simp)
                    have hs2 := z2.get (.head _)
                    have f2 := e1.trans (z2.fr0 (by simp))
                    walk_at "ev"
                    refine lc_pure (walk_zip (xs := ys) (ys := ys.drop 1) (n := ys.length - 1) (by simp)) (fun i => .bl (decide ((cs.getD i .non).fst < (cs.getD (i + 1) .non).fst))) (by omega) (fun H' e => ⟨e.sql (SqL.of hc2) (fun z => nomatch z), e.sql (SqL.of hs2) (fun z => nomatch z)⟩)
                      (fun i H' x H'' y => by obtain ⟨T, x1, x2, _, h0, rfl, _⟩ := y; exact (Fr.refl _).new h0) (fun i x H' H'' R hi e y kR => ?_) (fun D3 H3 hD e3 hD' => ?_)
                    · obtain ⟨t0, w1, w2, rfl, h0, rfl, g1, g2⟩ := y
                      replace g2 : (ys.drop 1)[i]? = some w2 := g2
                      replace g1 : ys[i]? = some w1 := g1
                      rw [List.getElem?_drop, Nat.add_comm] at g2
                      have fz : Fr [] H (upd H' t0 (.tup [w1, w2])) := (f2.trans e).new h0
                      obtain ⟨b1, rfl, q1⟩ := at_ _ fz _ _ g1
                      obtain ⟨b2, rfl, q2⟩ := at_ _ fz _ _ g2
                      walk_at "ev"
                      refine ⟨rfl, ?_⟩
                      walk_at "ev"
                      exact kR _ (Fr.refl _)
                    · walk_at "ev"
                      refine r_all (bs := (List.range (ys.length - 1)).map fun i => decide ((cs.getD i .non).fst < (cs.getD (i + 1) .non).fst)) (SqL.of (by rw [List.map_map]; exact hD')) ?_
                      rw [hlc, List.all_map]
                      have f3 := f2.trans e3
                      have k' := k
                      unfold cornersOk at k'
                      have hc3 := e3 _ _ (fun z => nomatch z) hc2
                      have ha3 : H3 a = some (.tup [x1, .ref ca]) := f3 _ _ (fun z => nomatch z) ha
                      walk_at "ev"
                      cases ea : (List.range (cs.length - 1)).all (id ∘ fun i => decide ((cs.getD i .non).fst < (cs.getD (i + 1) .non).fst)) with
                      | false =>
                        have ea' : ((List.range (cs.length - 1)).all fun i => decide ((cs.getD i .non).fst < (cs.getD (i + 1) .non).fst)) = false := ea
                        rw [ea', Bool.false_and] at k'
                        exact iteF (k' _ f3)
                      | true =>
                        have ea' : ((List.range (cs.length - 1)).all fun i => decide ((cs.getD i .non).fst < (cs.getD (i + 1) .non).fst)) = true := ea
                        rw [ea', Bool.true_and] at k'
                        refine iteT ?_
                        walk_at "ev"
                        refine lc_pure (walk_list (xs := ys)) (fun i => .bl (decide (1 ≤ (cs.getD i .non).snd))) (by omega) (fun H' e => e.sql (SqL.of hc3) (fun z => nomatch z)) (fun i H' x H'' y => by rw [y.1]; exact Fr.refl _) (fun i x H' H'' R hi e y kR => ?_) (fun D4 H4 hD e4 hD' => ?_)
                        · obtain ⟨rfl, hx⟩ := y
                          obtain ⟨b1, rfl, q1⟩ := at_ _ (f3.trans e) _ _ hx
                          walk_at "ev"
                          refine ⟨rfl, ?_⟩
                          walk_at "ev"
                          exact kR _ (Fr.refl _)
                        · walk_at "ev"
                          refine r_all (bs := (List.range ys.length).map fun i => decide (1 ≤ (cs.getD i .non).snd)) (SqL.of (by rw [List.map_map]; exact hD')) ?_
                          rw [hlc, List.all_map]
                          exact k' _ (f3.trans e4)
            | _ =>
              have e3 : ∀ q : Od, q.isL = false → (Od.tup [d1, q]).price = false := fun q hq => by
                cases q <;> first | rfl | cases hq
              refine iteNF ?_
              walk_at "ev"
              rw [e3 _ rfl] at k
              exact k _ (Fr.refl _)
    | _ =>
      refine iteNF ?_
      walk_at "ev"
      exact k _ (Fr.refl _)
end

set_option Elab.async false
set_option linter.all false
set_option maxRecDepth 100000
set_option maxHeartbeats 4000000

/-- a price -/
structure Pr where
  s : Int
  cs : List (Int × Int)
def Pr.co (p : Pr) : List Od := p.cs.map fun c => .tup [.int c.1, .int c.2]
def Pr.od (p : Pr) : Od := .tup [.int p.s, .lst p.co]
def mx (j : Int) : Int := if j > 0 then j else 0
def Pr.f (p : Pr) (v : Int) : Int := p.s * v + (p.cs.map fun c => c.2 * (mx (v - c.1) - mx (-c.1))).sum
/-- an entry of a size that can be multiplied -/
def Me (x : Int) : Prop := -(2 ^ 100) ≤ x ∧ x ≤ 2 ^ 100
/-- a price whose numbers can be multiplied -/
structure Pr.Sm (p : Pr) : Prop where
  len : p.cs.length ≤ 1000
  s : -1000 ≤ p.s ∧ p.s ≤ 1000
  c : ∀ c ∈ p.cs, Me c.1 ∧ 1 ≤ c.2 ∧ c.2 ≤ 2 ^ 40
theorem Pr.Sm.at {p : Pr} (h : p.Sm) (i : Nat) : Me (p.cs.getD i (0, 0)).1 ∧ 0 ≤ (p.cs.getD i (0, 0)).2 ∧ (p.cs.getD i (0, 0)).2 ≤ 2 ^ 40 := by
  rw [List.getD_eq_getElem?_getD]
  cases e : p.cs[i]? with
  | none => exact ⟨⟨by decide +kernel, by decide +kernel⟩, by decide, by decide +kernel⟩
  | some c =>
    have := h.c c (List.mem_of_getElem? e)
    exact ⟨this.1, Int.le_trans (by decide) this.2.1, this.2.2⟩
theorem range_getD {α : Type} (l : List α) (x : α) : ((List.range l.length).map fun i => l.getD i x) = l := by
  refine List.ext_getElem (by simp) fun i h1 h2 => ?_
  rw [List.getElem_map, List.getElem_range, List.getD_eq_getElem?_getD, List.getElem?_eq_getElem h2]
  rfl
theorem mx_small {x : Int} (h : -(2 ^ 101) ≤ x ∧ x ≤ 2 ^ 101) : 0 ≤ mx x ∧ mx x ≤ 2 ^ 101 := by
  unfold mx
  have : (0 : Int) ≤ 2 ^ 101 := by decide +kernel
  split <;> omega
theorem mul_me {x c m : Int} (hx : Me x) (hc : Me c) (h0 : 0 ≤ m) (h1 : m ≤ 2 ^ 40) : CMulW m (mx (x - c) - mx (-c)) := by
  have e : (2 : Int) ^ 100 + 2 ^ 100 = 2 ^ 101 := by decide +kernel
  have e2 : (2 : Int) ^ 101 + 2 ^ 101 ≤ 2 ^ 103 := by decide +kernel
  unfold Me at hx hc
  have a1 := mx_small (x := x - c) (by omega)
  have a2 := mx_small (x := -c) (by omega)
  have e3 : (2 : Int) ^ 40 < 2 ^ 50 := by decide +kernel
  have e4 : (2 : Int) ^ 103 < 2 ^ 110 := by decide +kernel
  have b1 : m.natAbs < 2 ^ 50 := natAbs_lt (by omega) (by omega)
  have b2 : (mx (x - c) - mx (-c)).natAbs < 2 ^ 110 := natAbs_lt (by omega) (by omega)
  exact wide_mul b1 b2 (by decide) (by decide) (by decide)
theorem mul_s {p : Pr} (sm : p.Sm) {x : Int} (h : Me x) : CMulW p.s x := by
  have e : (2 : Int) ^ 100 < 2 ^ 101 := by decide +kernel
  have := sm.s
  unfold Me at h
  have b1 : p.s.natAbs < 2 ^ 20 := natAbs_lt (by omega) (by omega)
  have b2 : x.natAbs < 2 ^ 101 := natAbs_lt (by omega) (by omega)
  exact wide_mul b1 b2 (by decide) (by decide) (by decide)
theorem Pr.Sm.lim {p : Pr} (h : p.Sm) : p.od.lim = true := by
  show (decide (p.co.length ≤ 1000) && p.co.all fun c => match c with
    | .tup l => decide (l.length ≤ 1000)
    | _ => true) = true
  have e : p.co.length = p.cs.length := List.length_map _
  rw [decide_eq_true (by rw [e]; exact h.len), Bool.true_and, List.all_eq_true]
  intro c hc
  unfold Pr.co at hc
  obtain ⟨d, _, rfl⟩ := List.mem_map.mp hc
  rfl
section
variable {P : Program} {w : World} {K : PySem.W.Frag} {mg : Str → Option Value} {base : Heap}
theorem Pr.lies {H : Hp} {v : V} {p : Pr} (h : OAt H v p.od) : ∃ a b xs, v = .ref a ∧ H a = some (.tup [.int p.s, .ref b]) ∧ H b = some (.lst xs) ∧ OAll H xs p.co := by
  cases h with
  | @tup a ys _ h t =>
    cases t with
    | cons h1 t =>
      cases t with
      | cons h2 t =>
        cases t
        cases h1
        cases h2 with
        | @lst b xs _ hb tb => exact ⟨a, b, xs, rfl, h, hb, tb⟩
theorem Pr.corner {H : Hp} {p : Pr} {xs : List V} (t : OAll H xs p.co) {i : Nat} {x : V} (h : xs[i]? = some x) : ∃ b, x = .ref b ∧ H b = some (.tup [.int (p.cs.getD i (0, 0)).1, .int (p.cs.getD i (0, 0)).2]) := by
  obtain ⟨d, e, o⟩ := t.get h
  unfold Pr.co at e
  rw [List.getElem?_map] at e
  rw [List.getD_eq_getElem?_getD]
  cases hc : p.cs[i]? with
  | none => rw [hc] at e; cases e
  | some c =>
    rw [hc] at e
    obtain rfl : Od.tup [.int c.1, .int c.2] = d := Option.some.inj e
    obtain ⟨a, rfl, ha⟩ := pair_at o rfl
    exact ⟨a, rfl, ha⟩
def sp_check_price (K : PySem.W.Frag) : Sp := fun vs H Q _ => ∃ (v : V) (d : Od), vs = [v] ∧ OAt H v d ∧ d.lim = true ∧ d.price = true ∧ ∀ H', Fr [] H H' → Q .non H'
theorem k_check_price (T : Tx fa fn K mg base) : Fk P w K mg base "check_price" ["price"] 4 (sp_check_price K) s_check_price "check_price" := by
  refine T.fk 4 14 (q := "check_price") (st := s_check_price) sc_check_price (fun _ _ _ _ _ _ us hl => match us, hl with | [_], _ => rfl) (fun vs H Q E h => ?_) (fun cdv A outer s H vs Q E hr h => ?_)
  · obtain ⟨v, d, rfl, _⟩ := h
    rfl
  · obtain ⟨v, d, rfl, hv, hl, hp, k⟩ := h
    refine ⟨_, (pss_one (ps_if (pt_not (pt_val (pe_f (k_is_price T) hr (pa_cons (pv 0) pa_nil)))) (pss_one ps_never) pss_nil)), ?_⟩
    walk_at "ev0"
    refine ⟨v, d, rfl, hv, hl, fun H1 f1 => ?_⟩
    rw [hp]
    walk_at "ev"
    exact k _ f1
def sp__price_of (K : PySem.W.Frag) : Sp := fun vs H Q _ => ∃ (v : V) (p : Pr) (x : Int), vs = [v, .int x] ∧ OAt H v p.od ∧ p.Sm ∧ Me x ∧ ∀ H', Fr [] H H' → Q (.int (p.f x)) H'
theorem k__price_of (T : Tx fa fn K mg base) : Fk P w K mg base "_price_of" ["price", "value"] 1 (sp__price_of K) s__price_of "_price_of" := by
  refine T.fk 5 17 (q := "_price_of") (st := s__price_of) sc__price_of (fun _ _ _ _ _ _ us hl => match us, hl with | [_, _], _ => rfl) (fun vs H Q E h => ?_) (fun cdv A outer s H vs Q E hr h => ?_)
  · obtain ⟨v, p, x, rfl, _⟩ := h
    rfl
  · obtain ⟨v, p, x, rfl, hv, sm, hme, k⟩ := h
    have hl := sm.len
    obtain ⟨a, b, xs, rfl, ha, hb, t⟩ := Pr.lies hv
    have hlx : xs.length = p.cs.length := by rw [t.length]; exact List.length_map _
    refine ⟨_, (pss_cons (ps_asg (pv 0) (pg_tup rfl (pgs_cons (pg_name (i := 2) sc__price_of.nd rfl (by first | exact Or.inl rfl | exact Or.inr rfl)) (pgs_cons (pg_name (i := 3) sc__price_of.nd rfl (by first | exact Or.inl rfl | exact Or.inr rfl)) pgs_nil))))
      (pss_cons (ps_setLc (i := 4) (own := [("corner", 5), ("more", 6)]) (tt := tYes) (g := (gTup K 2 (gCons (gName 5) (gCons (gName 6) gNil)))) (te := (tOp (rI CMulW fun i j => .int (i * j)) (tVar 6) (tOp (rI0 fun i j => .int (i - j)) (tCB rMax2X (tCons (tC (.int 0)) (tCons (tOp (rI0 fun i j => .int (i - j)) (tVar 1) (tVar 5)) tNil))) (tCB rMax2X (tCons (tC (.int 0)) (tCons (tUn (rU fun i => .int (-i)) (tVar 5)) tNil)))))) rfl sc__price_of.nd rfl rfl (sw_true rfl rfl rfl (by decide +kernel)) (pi_list (pv 3)) (blkOk_by (N := ["price", "value", "slope", "corners", "above", "corner", "more"]) (sc := defScope s__price_of) (by decide +kernel)) (fun _ _ _ _ _ => (pg_tup rfl (pgs_cons (pg_name (i := 5) sc__price_of.nd rfl (by first | exact Or.inl rfl | exact Or.inr rfl)) (pgs_cons (pg_name (i := 6) sc__price_of.nd rfl (by first | exact Or.inl rfl | exact Or.inr rfl)) pgs_nil)))) (fun _ _ _ _ _ => pts_nil) (fun _ _ _ _ _ => (pe_op op_mulW (pv 6) (pe_op op_sub (pe_callB (call_max2 rfl) (by rfl) (T.fr 16) (by decide +kernel) (pa_cons pe_int (pa_cons (pe_op op_sub (pv 1) (pv 5)) pa_nil))) (pe_callB (call_max2 rfl) (by rfl) (T.fr 16) (by decide +kernel) (pa_cons pe_int (pa_cons (pe_un un_neg (pv 5)) pa_nil)))))))
      (pss_one (ps_ret (pe_op op_add (pe_op op_mulW (pv 2) (pv 1)) (pe_callB (cr_sum rfl) (by rfl) (T.fr 15) (by decide +kernel) (pa_cons (pv 4) pa_nil))))))), ?_⟩
    walk_at "ev0"
    refine lc_pure (walk_list (xs := xs)) (fun i => .int ((p.cs.getD i (0, 0)).2 * (mx (x - (p.cs.getD i (0, 0)).1) - mx (-(p.cs.getD i (0, 0)).1)))) (by omega) (fun H' e => e.sql (SqL.of hb) (fun z => nomatch z)) (fun i H' x H'' y => by rw [y.1]; exact Fr.refl _) (fun i z H' H'' R hi e y kR => ?_) (fun D H' hD e hD' => ?_)
    · obtain ⟨rfl, hx⟩ := y
      obtain ⟨b1, rfl, q1⟩ := Pr.corner (t.mono e) hx
      have s1 := sm.at i
      walk_at "ev"
      refine ⟨rfl, ?_⟩
      walk_at "ev"
      refine r_I (mul_me hme s1.1 s1.2.1 s1.2.2) ?_
      walk_at "ev"
      exact kR _ (Fr.refl _)
    · walk_at "ev"
      refine r_I (mul_s sm hme) ?_
      walk_at "ev"
      refine r_sum (ns := (List.range xs.length).map fun i => (p.cs.getD i (0, 0)).2 * (mx (x - (p.cs.getD i (0, 0)).1) - mx (-(p.cs.getD i (0, 0)).1))) (SqL.of (by rw [List.map_map]; exact hD')) ?_
      walk_at "ev"
      have e2 : ((List.range xs.length).map fun i => (p.cs.getD i (0, 0)).2 * (mx (x - (p.cs.getD i (0, 0)).1) - mx (-(p.cs.getD i (0, 0)).1))) = p.cs.map fun c => c.2 * (mx (x - c.1) - mx (-c.1)) := by
        rw [hlx]
        have := congrArg (List.map fun c : Int × Int => c.2 * (mx (x - c.1) - mx (-c.1))) (range_getD p.cs (0, 0))
        rw [List.map_map] at this
        exact this
      rw [e2]
      exact k _ e
def sp_price_at (K : PySem.W.Frag) : Sp := fun vs H Q _ => ∃ (v : V) (p : Pr) (x : Int), vs = [v, .int x] ∧ OAt H v p.od ∧ p.od.price = true ∧ p.Sm ∧ Me x ∧ ∀ H', Fr [] H H' → Q (.int (p.f x)) H'
theorem k_price_at (T : Tx fa fn K mg base) : Fk P w K mg base "price_at" ["price", "value"] 5 (sp_price_at K) s_price_at "price_at" := by
  refine T.fk 6 18 (q := "price_at") (st := s_price_at) sc_price_at (fun _ _ _ _ _ _ us hl => match us, hl with | [_, _], _ => rfl) (fun vs H Q E h => ?_) (fun cdv A outer s H vs Q E hr h => ?_)
  · obtain ⟨v, p, x, rfl, _⟩ := h
    rfl
  · obtain ⟨v, p, x, rfl, hv, hp, sm, hme, k⟩ := h
    refine ⟨_, (pss_cons (ps_expr (pe_f (k_check_price T) hr (pa_cons (pv 0) pa_nil)))
      (pss_cons (ps_if (pt_not (pt_val (pe_f (k_is_whole T) hr (pa_cons (pv 1) pa_nil)))) (pss_one ps_never) pss_nil)
      (pss_one (ps_ret (pe_f (k__price_of T) hr (pa_cons (pv 0) (pa_cons (pv 1) pa_nil))))))), ?_⟩
    walk_at "ev0"
    refine ⟨v, _, rfl, hv, sm.lim, hp, fun H1 f1 => ?_⟩
    walk_at "ev"
    refine whole_int ?_
    walk_at "ev"
    refine ⟨v, p, x, rfl, hv.mono f1, sm, hme, fun H2 f2 => ?_⟩
    walk_at "ev"
    exact k _ (f1.trans f2)
def sp_cost_of (K : PySem.W.Frag) : Sp := fun vs H Q _ => ∃ (a : Addr) (v : V) (ns : List Int) (p : Pr), vs = [.ref a, v] ∧ H a = some (.lst (ns.map V.int)) ∧ (1 ≤ ns.length ∧ ns.length ≤ 200) ∧ OAt H v p.od ∧ p.od.price = true ∧ p.Sm ∧ (∀ x ∈ ns, Me x) ∧ ∀ H', Fr [] H H' → Q (.int (ns.map p.f).sum) H'
theorem k_cost_of (T : Tx fa fn K mg base) : Fk P w K mg base "cost_of" ["row", "price"] 5 (sp_cost_of K) s_cost_of "cost_of" := by
  refine T.fk 7 19 (q := "cost_of") (st := s_cost_of) sc_cost_of (fun _ _ _ _ _ _ us hl => match us, hl with | [_, _], _ => rfl) (fun vs H Q E h => ?_) (fun cdv A outer s H vs Q E hr h => ?_)
  · obtain ⟨a, v, ns, p, rfl, _⟩ := h
    rfl
  · obtain ⟨a, v, ns, p, rfl, hs, hn, hv, hp, sm, hme, k⟩ := h
    have hln : (ns.map V.int).length = ns.length := List.length_map _
    refine ⟨_, (pss_cons (ps_if (pt_not (pt_val (pe_f (k_is_whole_list T) hr (pa_cons (pv 0) pa_nil)))) (pss_one ps_never) pss_nil)
      (pss_cons (ps_expr (pe_f (k_check_price T) hr (pa_cons (pv 1) pa_nil)))
      (pss_one (ps_ret (pe_callB (cr_sum rfl) (by rfl) (T.fr 15) (by decide +kernel) (pa_cons (pe_lc (own := [("entry", 2)]) (tt := tYes) (te := (tCall (sp__price_of K) [] E0 (tCons (tVar 1) (tCons (tVar 2) tNil)))) rfl sc_cost_of.nd (pi_list (pv 0)) (blkOk_by (N := ["row", "price", "entry"]) (sc := defScope s_cost_of) (by decide +kernel)) (fun _ _ _ _ _ => (pg_name (i := 2) sc_cost_of.nd rfl (by first | exact Or.inl rfl | exact Or.inr rfl))) (fun _ _ _ _ _ => pts_nil) (fun _ _ _ _ _ => (pe_f (k__price_of T) hr (pa_cons (pv 1) (pa_cons (pv 2) pa_nil))))) pa_nil)))))), ?_⟩
    walk_at "ev0"
    refine ⟨a, ns, rfl, hs, hn, fun H1 f1 => ?_⟩
    walk_at "ev"
    refine ⟨v, _, rfl, hv.mono f1, sm.lim, hp, fun H2 f2 => ?_⟩
    have f02 := f1.trans f2
    walk_at "ev"
    refine ⟨a, rfl, ⟨_, SqL.of (f02 _ _ (fun z => nomatch z) hs)⟩, ?_⟩
    refine lc_pure (walk_list (xs := ns.map V.int)) (fun i => .int (p.f (nth ns i))) (by omega) (fun H' e => SqL.of ((f02.trans e) _ _ (fun z => nomatch z) hs)) (fun i H' x H'' y => by rw [y.1]; exact Fr.refl _) (fun i z H' H'' R hi e y kR => ?_) (fun D H' hD e hD' => ?_)
    · obtain ⟨rfl, hx⟩ := y
      rw [nth_at hx]
      walk_at "ev"
      refine ⟨rfl, ?_⟩
      walk_at "ev"
      refine ⟨v, p, nth ns i, rfl, hv.mono (f02.trans e), sm, hme _ (nth_mem (by omega)), fun H3 f3 => ?_⟩
      exact kR _ f3
    · walk_at "ev"
      refine r_sum (ns := (List.range (ns.map V.int).length).map fun i => p.f (nth ns i)) (SqL.of (by rw [List.map_map]; exact hD')) ?_
      rw [hln, range_mapI]
      exact k _ (f02.trans e)
end

set_option Elab.async false
set_option linter.all false
set_option maxRecDepth 100000
set_option maxHeartbeats 4000000

section
variable {P : Program} {w : World} {K : PySem.W.Frag} {mg : Str → Option Value} {base : Heap}
theorem abs_lt {x : Int} {n : Nat} (h0 : 0 ≤ x) (h : x < 2 ^ n) : x.natAbs < 2 ^ n := by
  have e : ((2 ^ n : Nat) : Int) = (2 : Int) ^ n := by simp
  omega
/-! ## a jar made -/
def sp__law_jar (K : PySem.W.Frag) : Sp := fun vs H Q _ => ∃ (a : Addr) (ns : List Int) (k : Int), vs = [.ref a, .int k] ∧ SqL K H a (ns.map V.int) ∧ (0 ≤ k ∧ k ≤ 1000) ∧ ∀ p H', H p = none → Fr [] H H' → JarAt H' p 1000000 → Q (.ref p) H'
theorem k__law_jar (T : Tx fa fn K mg base) : Fk P w K mg base "_law_jar" ["script", "k"] 1 (sp__law_jar K) s__law_jar "_law_jar" := by
  refine T.fk 8 21 (q := "_law_jar") (st := s__law_jar) sc__law_jar (fun _ _ _ _ _ _ us hl => match us, hl with | [_, _], _ => rfl) (fun vs H Q E h => ?_) (fun cdv A outer s H vs Q E hr h => ?_)
  · obtain ⟨a, ns, k, rfl, _⟩ := h
    rfl
  · obtain ⟨a, ns, k, rfl, ha, hk, q⟩ := h
    have hl : (ns.map V.int).length = ns.length := List.length_map _
    refine ⟨_, (pss_cons (ps_set (i := 2) sc__law_jar.nd rfl (by first | exact Or.inl rfl | exact Or.inr rfl) (pe_ifExp (pt_cmpR op_lt (pv 1) (pe_callB call_len_seq (by rfl) (T.fr 5) (by decide +kernel) (pa_cons (pv 0) pa_nil)) (nomark _)) (pe_callB call_abs (by rfl) (T.fr 20) (by decide +kernel) (pa_cons (pe_ix ix_list (pv 0) (pv 1) (fun _ _ => rfl)) pa_nil)) pe_int))
      (pss_one (ps_ret (pe_lst (pa_cons (pe_callB (call_max2 rfl) (by rfl) (T.fr 16) (by decide +kernel) (pa_cons pe_int (pa_cons (pe_op op_sub (pv 2) (pe_op op_powW pe_int pe_int)) pa_nil))) (pa_cons (pe_op op_add (pe_op op_mulW (pe_op op_mod (pe_callTy call_int1 (by rfl) (T.fr 2) (by decide +kernel) (pa_cons (pv 2) pa_nil)) (pe_op op_add (pe_op op_powW pe_int pe_int) pe_int)) pe_int) (pe_op op_mulW pe_int (pv 1))) (pa_cons pe_int pa_nil))))))), ?_⟩
    walk_at "ev0"
    have key : ∀ z : Int, 0 ≤ z → ∀ k : Int, 0 ≤ k → k ≤ 1000 → ∀ p, H p = none → JarAt (upd H p (JarO (if z - 10 ^ Int.toNat 18 > 0 then z - 10 ^ Int.toNat 18 else 0) (z % (10 ^ Int.toNat 43 + 57) * 101 + 70001 * k) 0)) p 1000000 := fun z hz k k0 k1 p hp => by
      have e0 : 0 ≤ z % (10 ^ Int.toNat 43 + 57) := Int.emod_nonneg _ (by decide +kernel)
      have e1 : z % (10 ^ Int.toNat 43 + 57) < 2 ^ 150 := Int.lt_trans (Int.emod_lt_of_pos _ (by decide +kernel)) (by decide +kernel)
      refine ⟨_, _, _, upd_same, ?_, ?_, ?_, by decide, by decide⟩
      · split <;> omega
      · omega
      · omega
    have go : ∀ z : Int, 0 ≤ z → (∀ p, H p = none → Q (.ref p) (upd H p (JarO (if z - 10 ^ Int.toNat 18 > 0 then z - 10 ^ Int.toNat 18 else 0) (z % (10 ^ Int.toNat 43 + 57) * 101 + 70001 * k) 0))) := fun z hz p hp => q p _ hp ((Fr.refl H).new hp) (key z hz k hk.1 hk.2 p hp)
    have m1 : ∀ z : Int, CMulW (z % (10 ^ Int.toNat 43 + 57)) 101 := fun z => by
      have e0 : 0 ≤ z % (10 ^ Int.toNat 43 + 57) := Int.emod_nonneg _ (by decide +kernel)
      have e1 : z % (10 ^ Int.toNat 43 + 57) < 2 ^ 150 := Int.lt_trans (Int.emod_lt_of_pos _ (by decide +kernel)) (by decide +kernel)
      exact wide_mul (a := 150) (b := 30) (natAbs_lt (by omega) e1) (by decide) (by decide) (by decide) (by decide)
    have m2 : CMulW 70001 k := wide_mul (a := 30) (b := 30) (by decide) (natAbs_lt (by omega) (by omega)) (by decide) (by decide) (by decide)
    refine r_ite (fun hlt => ?_) (fun hlt => ?_)
    · walk_at "ev"
      refine r_at (atI_nth (by omega) (by omega)) ?_
      walk_at "ev"
      refine r_I (by decide +kernel) ?_
      walk_at "ev"
      refine r_I (m1 _) ?_
      walk_at "ev"
      refine r_I m2 ?_
      walk_at "ev"
      exact go _ (by split <;> omega)
    · walk_at "ev"
      refine r_I (by decide +kernel) ?_
      walk_at "ev"
      refine r_I (m1 _) ?_
      walk_at "ev"
      refine r_I m2 ?_
      walk_at "ev"
      exact go _ (by decide)
/-! ## a draw -/
def sp__law_dip (K : PySem.W.Frag) : Sp := fun vs H Q _ => ∃ (j : Addr) (m : Int) (n : Nat), vs = [.ref j, .int m] ∧ JarAt H j (n + 1) ∧ 0 < m ∧ m < 2 ^ 1000 ∧ ∀ v H', 0 ≤ v → v < m → Fr [j] H H' → JarAt H' j n → Q (.int v) H'
theorem k__law_dip (T : Tx fa fn K mg base) : Fk P w K mg base "_law_dip" ["jar", "many"] 1 (sp__law_dip K) s__law_dip "_law_dip" := by
  refine T.fk 9 22 (q := "_law_dip") (st := s__law_dip) sc__law_dip (fun _ _ _ _ _ _ us hl => match us, hl with | [_, _], _ => rfl) (fun vs H Q E h => ?_) (fun cdv A outer s H vs Q E hr h => ?_)
  · obtain ⟨j, m, n, rfl, _⟩ := h
    rfl
  · obtain ⟨j, m, n, rfl, ⟨a, b, c, hj, jb⟩, m0, m1, k⟩ := h
    have wm := abs_lt (Int.le_of_lt m0) m1
    have fr1 : ∀ {o : HO}, Fr [j] H (upd H j o) := fun {o} x u hx e => by
      rw [upd_ne (fun z => hx (by rw [z]; exact List.mem_cons_self))]
      exact e
    refine ⟨_, (pss_cons (ps_if (pt_cmpR op_gt (pe_ix ix_list (pv 0) pe_int (fun _ _ => rfl)) pe_int (nomark _)) (pss_cons (ps_set (i := 2) sc__law_dip.nd rfl (by first | exact Or.inl rfl | exact Or.inr rfl) (pe_op op_mod (pe_callTy call_int1 (by rfl) (T.fr 2) (by decide +kernel) (pa_cons (pe_ix ix_list (pv 0) pe_int (fun _ _ => rfl)) pa_nil)) (pv 1)))
      (pss_cons (ps_asg (pe_op op_fdivW (pe_ix ix_list (pv 0) pe_int (fun _ _ => rfl)) (pv 1)) (pg_sub (pv 0) pe_int set_list))
      (pss_one (ps_ret (pv 2))))) pss_nil)
      (pss_cons (ps_asg (pe_op op_add (pe_ix ix_list (pv 0) pe_int (fun _ _ => rfl)) pe_int) (pg_sub (pv 0) pe_int set_list))
      (pss_cons (ps_set (i := 3) sc__law_dip.nd rfl (by first | exact Or.inl rfl | exact Or.inr rfl) (pe_op op_mod (pe_callTy call_int1 (by rfl) (T.fr 2) (by decide +kernel) (pa_cons (pe_op op_powW (pe_op op_add (pe_ix ix_list (pv 0) pe_int (fun _ _ => rfl)) (pe_op op_mulW pe_int (pe_ix ix_list (pv 0) pe_int (fun _ _ => rfl)))) pe_int) pa_nil)) (pe_op op_add (pe_op op_powW pe_int pe_int) pe_int)))
      (pss_cons (ps_set (i := 3) sc__law_dip.nd rfl (by first | exact Or.inl rfl | exact Or.inr rfl) (pe_op op_mod (pe_callTy call_int1 (by rfl) (T.fr 2) (by decide +kernel) (pa_cons (pe_op op_powW (pe_op op_add (pv 3) (pe_op op_mulW pe_int (pe_ix ix_list (pv 0) pe_int (fun _ _ => rfl)))) pe_int) pa_nil)) (pe_op op_add (pe_op op_powW pe_int pe_int) pe_int)))
      (pss_one (ps_ret (pe_op op_mod (pe_callTy call_int1 (by rfl) (T.fr 2) (by decide +kernel) (pa_cons (pe_op op_fdivW (pv 3) pe_int) pa_nil)) (pv 1)))))))), ?_⟩
    walk_at "ev0"
    refine r_ite (fun h0 => ?_) (fun h0 => ?_)
    · walk_at "ev"
      refine r_I m0 ?_
      walk_at "ev"
      refine r_I (wide_div m0 wm (by decide) (by decide)) ?_
      walk_at "ev"
      exact k _ _ (Int.emod_nonneg _ (by omega)) (Int.emod_lt_of_pos _ m0) fr1 ⟨a / m, b, c, upd_same, Int.ediv_nonneg jb.a0 (by omega), jb.b0, jb.b1, jb.c0, by have := jb.c1; omega⟩
    · have c1 := jb.c1
      have c0 := jb.c0
      have b0 := jb.b0
      have b1 := jb.b1
      walk_at "ev"
      refine r_I (wide_mul (a := 30) (b := 30) (by decide) (natAbs_lt (by omega) (by omega)) (by decide) (by decide) (by decide)) ?_
      walk_at "ev"
      refine r_I (powW (b := 201) (by decide) (by decide) (natAbs_lt (by omega) (by omega)) (by decide) (by decide)) ?_
      walk_at "ev"
      refine r_I (by decide +kernel) ?_
      generalize hx : (b + 60000049 * (c + 1)) ^ Int.toNat 3 % (10 ^ Int.toNat 47 + 91) = x
      have x0 : 0 ≤ x := by
        rw [← hx]
        exact Int.emod_nonneg _ (by decide +kernel)
      have x1 : x < 2 ^ 200 := by
        rw [← hx]
        exact Int.lt_trans (Int.emod_lt_of_pos _ (by decide +kernel)) (by decide +kernel)
      walk_at "ev"
      refine r_I (wide_mul (a := 30) (b := 30) (by decide) (natAbs_lt (by omega) (by omega)) (by decide) (by decide) (by decide)) ?_
      walk_at "ev"
      refine r_I (powW (b := 201) (by decide) (by decide) (natAbs_lt (by omega) (by omega)) (by decide) (by decide)) ?_
      walk_at "ev"
      refine r_I (by decide +kernel) ?_
      walk_at "ev"
      refine r_I (wide_div (b := 40) (by decide) (by decide) (by decide) (by decide)) ?_
      walk_at "ev"
      refine r_I m0 ?_
      walk_at "ev"
      exact k _ _ (Int.emod_nonneg _ (by omega)) (Int.emod_lt_of_pos _ m0) fr1 ⟨a, b, c + 1, upd_same, jb.a0, jb.b0, jb.b1, by omega, by omega⟩
end

set_option Elab.async false
set_option linter.all false
set_option maxRecDepth 100000
set_option maxHeartbeats 4000000
set_option exponentiation.threshold 2000

/-- what a corner adds to an entry's price -/
def Pr.g (x : Int) (c : Int × Int) : Int := c.2 * (mx (x - c.1) - mx (-c.1))
def Pr.upto (p : Pr) (x : Int) (i : Nat) : Int := p.s * x + ((p.cs.take i).map (Pr.g x)).sum
theorem Pr.upto0 (p : Pr) (x : Int) : p.upto x 0 = p.s * x := by
  unfold Pr.upto
  rw [List.take_zero]
  show p.s * x + 0 = _
  omega
theorem Pr.uptoS (p : Pr) (x : Int) {i : Nat} (h : i < p.cs.length) : p.upto x (i + 1) = p.upto x i + Pr.g x (p.cs.getD i (0, 0)) := by
  unfold Pr.upto
  rw [List.take_succ, List.getD_eq_getElem?_getD, List.getElem?_eq_getElem h]
  simp only [Option.toList_some, Option.getD_some, List.map_append, List.map_cons, List.map_nil, List.sum_append, List.sum_cons, List.sum_nil]
  omega
theorem Pr.uptoN (p : Pr) (x : Int) : p.upto x p.cs.length = p.f x := by
  unfold Pr.upto
  rw [List.take_length]
  rfl
theorem mx_pos {v c : Int} (h : 0 < v) : mx (v - c) - mx (-c) = mx (v - mx c) := by
  unfold mx
  repeat' split
  all_goals omega
theorem mx_neg {v c : Int} (h : ¬ 0 < v) : mx (v - c) - mx (-c) = -(mx (0 - (if c > v then c else v))) := by
  unfold mx
  repeat' split
  all_goals omega
theorem mx_mx {x c : Int} (hx : Me x) (hc : Me c) : -(2 ^ 103) ≤ mx (0 - (if c > x then c else x)) ∧ mx (0 - (if c > x then c else x)) ≤ 2 ^ 103 := by
  have e : (2 : Int) ^ 100 ≤ 2 ^ 103 := by decide +kernel
  have e0 : (0 : Int) ≤ 2 ^ 100 := by decide +kernel
  unfold Me at hx hc
  unfold mx
  repeat' split
  all_goals omega
theorem mul_m {m y : Int} (h0 : 0 ≤ m) (h1 : m ≤ 2 ^ 40) (h : -(2 ^ 103) ≤ y ∧ y ≤ 2 ^ 103) : CMulW m y := by
  have e3 : (2 : Int) ^ 40 < 2 ^ 50 := by decide +kernel
  have e4 : (2 : Int) ^ 103 < 2 ^ 110 := by decide +kernel
  have b1 : m.natAbs < 2 ^ 50 := natAbs_lt (by omega) (by omega)
  have b2 : y.natAbs < 2 ^ 110 := natAbs_lt (by omega) (by omega)
  exact wide_mul b1 b2 (by decide) (by decide) (by decide)
theorem g_step (h : Int) (c : Int × Int) : Pr.g (h + 1) c = Pr.g h c + if c.1 ≤ h then c.2 else 0 := by
  unfold Pr.g
  have e : mx (h + 1 - c.1) = mx (h - c.1) + if c.1 ≤ h then 1 else 0 := by
    unfold mx
    repeat' split
    all_goals omega
  rw [e]
  split
  · rw [show mx (h - c.1) + 1 - mx (-c.1) = (mx (h - c.1) - mx (-c.1)) + 1 by omega, Int.mul_add, Int.mul_one]
  · rw [Int.add_zero, Int.add_zero]
theorem sum_step (h : Int) : ∀ l : List (Int × Int), (l.map (Pr.g (h + 1))).sum = (l.map (Pr.g h)).sum + ((l.filter fun c => decide (c.1 ≤ h)).map (·.2)).sum
  | [] => rfl
  | c :: r => by
    rw [List.map_cons, List.map_cons, List.sum_cons, List.sum_cons, sum_step h r, g_step, List.filter_cons]
    by_cases d : c.1 ≤ h
    · rw [if_pos d, if_pos (decide_eq_true d), List.map_cons, List.sum_cons]
      omega
    · rw [if_neg d, if_neg (by rw [decide_eq_false d]; exact Bool.false_ne_true)]
      omega
/-- the slope of the step behind an entry -/
def Pr.steep (p : Pr) (h : Int) : Int := p.s + ((p.cs.filter fun c => decide (c.1 ≤ h)).map (·.2)).sum
theorem Pr.f_step (p : Pr) (h : Int) : p.f (h + 1) = p.f h + p.steep h := by
  have := sum_step h p.cs
  show p.s * (h + 1) + (p.cs.map (Pr.g (h + 1))).sum = p.s * h + (p.cs.map (Pr.g h)).sum + (p.s + _)
  rw [this, Int.mul_add, Int.mul_one]
  omega
theorem Pr.f0 (p : Pr) : p.f 0 = 0 := by
  have e : ∀ l : List (Int × Int), (l.map (Pr.g 0)).sum = 0 := fun l => by
    induction l with
    | nil => rfl
    | cons c r ih =>
      rw [List.map_cons, List.sum_cons, ih]
      unfold Pr.g
      rw [Int.zero_sub, Int.sub_self, Int.mul_zero]
      rfl
  show p.s * 0 + (p.cs.map (Pr.g 0)).sum = 0
  rw [e, Int.mul_zero]
  rfl
theorem Pr.steep_is (p : Pr) (h : Int) : ((((List.range p.cs.length).filter fun i => decide ((p.cs.getD i (0, 0)).1 ≤ h)).map fun i => (p.cs.getD i (0, 0)).2)).sum = ((p.cs.filter fun c => decide (c.1 ≤ h)).map (·.2)).sum := by
  have e := range_getD p.cs (0, 0)
  have e2 : ((p.cs.filter fun c => decide (c.1 ≤ h)).map (·.2)) = ((((List.range p.cs.length).map fun i => p.cs.getD i (0, 0)).filter fun c => decide (c.1 ≤ h)).map (·.2)) := by rw [e]
  rw [e2, List.filter_map, List.map_map]
  rfl
def spotOf (σ : L2.St) : Int := match σ[5]? with
  | some (some (V.int i)) => i
  | _ => 0
section
variable {P : Program} {w : World} {K : PySem.W.Frag} {mg : Str → Option Value} {base : Heap}
def sp__law_cost (K : PySem.W.Frag) : Sp := fun vs H Q _ => ∃ (v : V) (p : Pr) (x : Int), vs = [v, .int x] ∧ OAt H v p.od ∧ p.Sm ∧ Me x ∧ ∀ H', Fr [] H H' → Q (.int (p.f x)) H'
theorem k__law_cost (T : Tx fa fn K mg base) : Fk P w K mg base "_law_cost" ["price_here", "entry"] 1 (sp__law_cost K) s__law_cost "_law_cost" := by
  refine T.fk 11 26 (q := "_law_cost") (st := s__law_cost) sc__law_cost (fun _ _ _ _ _ _ us hl => match us, hl with | [_, _], _ => rfl) (fun vs H Q E h => ?_) (fun cdv A outer s H vs Q E hr h => ?_)
  · obtain ⟨v, p, x, rfl, _⟩ := h
    rfl
  · obtain ⟨v, p, x, rfl, hv, sm, hme, k⟩ := h
    have hl := sm.len
    obtain ⟨a, b, xs, rfl, ha, hb, t⟩ := Pr.lies hv
    have hlx : xs.length = p.cs.length := by rw [t.length]; exact List.length_map _
    refine ⟨_, (pss_cons (ps_asg (pv 0) (pg_tup rfl (pgs_cons (pg_name (i := 2) sc__law_cost.nd rfl (by first | exact Or.inl rfl | exact Or.inr rfl)) (pgs_cons (pg_name (i := 3) sc__law_cost.nd rfl (by first | exact Or.inl rfl | exact Or.inr rfl)) pgs_nil))))
      (pss_cons (ps_set (i := 4) sc__law_cost.nd rfl (by first | exact Or.inl rfl | exact Or.inr rfl) (pe_op op_mulW (pv 2) (pv 1)))
      (pss_cons (ps_for PassesOwn.never rfl (pi_list (pv 3)) (pg_tup rfl (pgs_cons (pg_name (i := 5) sc__law_cost.nd rfl (by first | exact Or.inl rfl | exact Or.inr rfl)) (pgs_cons (pg_name (i := 6) sc__law_cost.nd rfl (by first | exact Or.inl rfl | exact Or.inr rfl)) pgs_nil))) (pss_one (ps_if (pt_cmpR op_gt (pv 1) pe_int (nomark _)) (pss_one (ps_set (i := 4) sc__law_cost.nd rfl (by first | exact Or.inl rfl | exact Or.inr rfl) (pe_op op_add (pv 4) (pe_op op_mulW (pv 6) (pe_callB (call_max2 rfl) (by rfl) (T.fr 16) (by decide +kernel) (pa_cons pe_int (pa_cons (pe_op op_sub (pv 1) (pe_callB (call_max2 rfl) (by rfl) (T.fr 16) (by decide +kernel) (pa_cons pe_int (pa_cons (pv 5) pa_nil)))) pa_nil))))))) (pss_one (ps_set (i := 4) sc__law_cost.nd rfl (by first | exact Or.inl rfl | exact Or.inr rfl) (pe_op op_sub (pv 4) (pe_op op_mulW (pv 6) (pe_callB (call_max2 rfl) (by rfl) (T.fr 16) (by decide +kernel) (pa_cons pe_int (pa_cons (pe_op op_sub pe_int (pe_callB (call_max2 rfl) (by rfl) (T.fr 16) (by decide +kernel) (pa_cons (pv 1) (pa_cons (pv 5) pa_nil)))) pa_nil))))))))))
      (pss_one (ps_ret (pv 4)))))), ?_⟩
    walk_at "ev0"
    refine r_I (mul_s sm hme) ?_
    walk_at "ev"
    refine for_it (walk_list (xs := xs)) (fun i σ H' => ∃ u5 u6 : Option V, σ = [some (.ref a), some (.int x), some (.int p.s), some (.ref b), some (.int (p.upto x i)), u5, u6] ∧ Fr [] H H') ⟨none, none, by rw [Pr.upto0]; rfl, Fr.refl H⟩ (fun i σ H' _ ⟨_, _, _, f⟩ => SqL.of (f _ _ nin hb)) (fun i z σ H1 H1' hi pp y => ?_) (fun σ H1 pp => ?_)
    · obtain ⟨u5, u6, rfl, f1⟩ := pp
      obtain ⟨rfl, hx⟩ := y
      obtain ⟨b1, rfl, q1⟩ := Pr.corner (t.mono f1) hx
      have s1 := sm.at i
      generalize hc : (p.cs.getD i (0, 0)).1 = c at *
      generalize hm : (p.cs.getD i (0, 0)).2 = m at *
      have eS := p.uptoS x (i := i) (by omega)
      have eg : Pr.g x (p.cs.getD i (0, 0)) = m * (mx (x - c) - mx (-c)) := by
        unfold Pr.g
        rw [hc, hm]
      walk_at "ev"
      refine r_ite (fun h0 => ?_) (fun h0 => ?_)
      · have e := mx_pos (c := c) h0
        have cm := mul_me (c := c) hme s1.1 s1.2.1 s1.2.2
        rw [e] at cm
        walk_at "ev"
        refine r_I cm ?_
        walk_at "ev"
        rw [eg, e] at eS
        exact ⟨_, _, by rw [eS]; rfl, f1⟩
      · have e := mx_neg (c := c) h0
        have cm : CMulW m (mx (0 - (if c > x then c else x))) := mul_m s1.2.1 s1.2.2 (mx_mx hme s1.1)
        walk_at "ev"
        refine r_I cm ?_
        walk_at "ev"
        rw [eg, e, Int.mul_neg] at eS
        exact ⟨_, _, by rw [eS]; rfl, f1⟩
    · obtain ⟨u5, u6, rfl, f1⟩ := pp
      rw [hlx, Pr.uptoN]
      walk_at "ev"
      exact k _ f1
def sp__law_steps (K : PySem.W.Frag) : Sp := fun vs H Q _ => ∃ (v : V) (p : Pr) (x : Int), vs = [v, .int x] ∧ OAt H v p.od ∧ p.Sm ∧ (-12 ≤ x ∧ x ≤ 12) ∧ ∀ H', Fr [] H H' → Q (.int (p.f x)) H'
theorem k__law_steps (T : Tx fa fn K mg base) : Fk P w K mg base "_law_steps" ["price_here", "entry"] 1 (sp__law_steps K) s__law_steps "_law_steps" := by
  refine T.fk 12 27 (q := "_law_steps") (st := s__law_steps) sc__law_steps (fun _ _ _ _ _ _ us hl => match us, hl with | [_, _], _ => rfl) (fun vs H Q E h => ?_) (fun cdv A outer s H vs Q E hr h => ?_)
  · obtain ⟨v, p, x, rfl, _⟩ := h
    rfl
  · obtain ⟨v, p, x, rfl, hv, sm, hme, k⟩ := h
    have hl := sm.len
    obtain ⟨a, b, xs, rfl, ha, hb, t⟩ := Pr.lies hv
    have hlx : xs.length = p.cs.length := by rw [t.length]; exact List.length_map _
    refine ⟨_, (pss_cons (ps_asg (pv 0) (pg_tup rfl (pgs_cons (pg_name (i := 2) sc__law_steps.nd rfl (by first | exact Or.inl rfl | exact Or.inr rfl)) (pgs_cons (pg_name (i := 3) sc__law_steps.nd rfl (by first | exact Or.inl rfl | exact Or.inr rfl)) pgs_nil))))
      (pss_cons (ps_asg (pe_tup (pa_cons pe_int (pa_cons pe_int pa_nil))) (pg_tup rfl (pgs_cons (pg_name (i := 4) sc__law_steps.nd rfl (by first | exact Or.inl rfl | exact Or.inr rfl)) (pgs_cons (pg_name (i := 5) sc__law_steps.nd rfl (by first | exact Or.inl rfl | exact Or.inr rfl)) pgs_nil))))
      (pss_cons (ps_while PassesOwn.never (pt_cmpR op_ne (pv 5) (pv 1) (nomark _)) (pss_cons (ps_set (i := 6) sc__law_steps.nd rfl (by first | exact Or.inl rfl | exact Or.inr rfl) (pe_ifExp (pt_cmpR op_gt (pv 1) pe_int (nomark _)) (pv 5) (pe_op op_sub (pv 5) pe_int)))
      (pss_cons (ps_set (i := 7) sc__law_steps.nd rfl (by first | exact Or.inl rfl | exact Or.inr rfl) (pe_op op_add (pv 2) (pe_callB (cr_sum rfl) (by rfl) (T.fr 15) (by decide +kernel) (pa_cons (pe_lc (own := [("edge", 8), ("more", 9)]) (tt := (tTest (tOp (rI0 fun i j => .bl (decide (i ≤ j))) (tVar 8) (tVar 6)))) (g := (gTup K 2 (gCons (gName 8) (gCons (gName 9) gNil)))) (te := (tVar 9)) rfl sc__law_steps.nd (pi_list (pv 3)) (blkOk_by (N := ["price_here", "entry", "slope_here", "corners_here", "found", "spot", "here", "steep", "edge", "more"]) (sc := defScope s__law_steps) (by decide +kernel)) (fun _ _ _ _ _ => (pg_tup rfl (pgs_cons (pg_name (i := 8) sc__law_steps.nd rfl (by first | exact Or.inl rfl | exact Or.inr rfl)) (pgs_cons (pg_name (i := 9) sc__law_steps.nd rfl (by first | exact Or.inl rfl | exact Or.inr rfl)) pgs_nil)))) (fun _ _ _ _ _ => (pts_one (pt_cmpR op_le (pv 8) (pv 6) (nomark _)))) (fun _ _ _ _ _ => (pv 9))) pa_nil))))
      (pss_cons (ps_set (i := 4) sc__law_steps.nd rfl (by first | exact Or.inl rfl | exact Or.inr rfl) (pe_ifExp (pt_cmpR op_gt (pv 1) pe_int (nomark _)) (pe_op op_add (pv 4) (pv 7)) (pe_op op_sub (pv 4) (pv 7))))
      (pss_one (ps_set (i := 5) sc__law_steps.nd rfl (by first | exact Or.inl rfl | exact Or.inr rfl) (pe_ifExp (pt_cmpR op_gt (pv 1) pe_int (nomark _)) (pe_op op_add (pv 5) pe_int) (pe_op op_sub (pv 5) pe_int))))))))
      (pss_one (ps_ret (pv 4)))))), ?_⟩
    walk_at "ev0"
    intro t1 k1
    have f1 : Fr [] H (upd H t1 (.tup [.int 0, .int 0])) := (Fr.refl _).new k1
    have g1 : (upd H t1 (.tup [.int 0, .int 0])) t1 = some (.tup [.int 0, .int 0]) := upd_same
    walk_at "ev"
    generalize upd H t1 (.tup [.int 0, .int 0]) = HA at f1 g1 ⊢
    refine while_by (fun σ H' => ∃ (sp : Int) (u6 u7 u8 u9 : Option V), σ = [some (.ref a), some (.int x), some (.int p.s), some (.ref b), some (.int (p.f sp)), some (.int sp), u6, u7, u8, u9] ∧ (0 ≤ sp ∧ sp ≤ x ∨ x ≤ sp ∧ sp ≤ 0) ∧ Fr [] H H') (fun σ _ => (x - spotOf σ).natAbs) ⟨0, none, none, none, none, by rw [Pr.f0]; rfl, by omega, f1⟩ (fun σ H1 pp => ?_) (fun σ H Q Q' m c => ?_)
    · obtain ⟨sp, u6, u7, u8, u9, rfl, hsp, f2⟩ := pp
      walk_at "ev"
      by_cases hc : sp = x
      · subst hc
        rw [decide_eq_true rfl]
        refine iteF ?_
        walk_at "ev"
        exact k _ f2
      · rw [decide_eq_false (show ¬ V.int sp = V.int x from fun e => hc (by injection e))]
        refine iteT ?_
        walk_at "ev"
        have key : ∀ (R : Prop) , R → R := fun _ h => h
        by_cases h0 : 0 < x
        · rw [decide_eq_true (show (0 : Int) < x from h0)]
          walk_at "ev"
          refine ⟨b, rfl, ⟨_, SqL.of (f2 _ _ nin hb)⟩, ?_⟩
          refine lc_filt (walk_list (xs := xs)) (fun i => .int (p.cs.getD i (0, 0)).2) (fun i => decide ((p.cs.getD i (0, 0)).1 ≤ sp)) (by omega) (fun H' e => SqL.of ((f2.trans e) _ _ nin hb)) (fun i H' x H'' y => by rw [y.1]; exact Fr.refl _) (fun i z H' H'' R N hi e y kR kN => ?_) (fun D H2 hD e hD' => ?_)
          · obtain ⟨rfl, hx⟩ := y
            obtain ⟨b1, rfl, q1⟩ := Pr.corner (t.mono (f2.trans e)) hx
            walk_at "ev"
            refine ⟨rfl, ?_⟩
            walk_at "ev"
            cases hd : decide ((p.cs.getD i (0, 0)).1 ≤ sp) with
            | true =>
              refine iteT ?_
              walk_at "ev"
              exact kR hd _ (Fr.refl _)
            | false =>
              refine iteF ?_
              exact kN hd _ (Fr.refl _)
          · have f3 := f2.trans e
            walk_at "ev"
            refine r_sum (ns := ((List.range xs.length).filter fun i => decide ((p.cs.getD i (0, 0)).1 ≤ sp)).map fun i => (p.cs.getD i (0, 0)).2) (SqL.of (by rw [List.map_map]; exact hD')) ?_
            rw [hlx, Pr.steep_is]
            walk_at "ev"
            rw [decide_eq_true (show (0 : Int) < x from h0)]
            walk_at "ev"
            rw [decide_eq_true (show (0 : Int) < x from h0)]
            walk_at "ev"
            have fs := p.f_step sp
            unfold Pr.steep at fs
            refine ⟨⟨sp + 1, _, _, _, _, by rw [fs]; rfl, by omega, f3⟩, ?_⟩
            show (x - (sp + 1)).natAbs < (x - sp).natAbs
            omega
        · rw [decide_eq_false (show ¬ (0 : Int) < x from h0)]
          walk_at "ev"
          refine ⟨b, rfl, ⟨_, SqL.of (f2 _ _ nin hb)⟩, ?_⟩
          refine lc_filt (walk_list (xs := xs)) (fun i => .int (p.cs.getD i (0, 0)).2) (fun i => decide ((p.cs.getD i (0, 0)).1 ≤ (sp - 1))) (by omega) (fun H' e => SqL.of ((f2.trans e) _ _ nin hb)) (fun i H' x H'' y => by rw [y.1]; exact Fr.refl _) (fun i z H' H'' R N hi e y kR kN => ?_) (fun D H2 hD e hD' => ?_)
          · obtain ⟨rfl, hx⟩ := y
            obtain ⟨b1, rfl, q1⟩ := Pr.corner (t.mono (f2.trans e)) hx
            walk_at "ev"
            refine ⟨rfl, ?_⟩
            walk_at "ev"
            cases hd : decide ((p.cs.getD i (0, 0)).1 ≤ (sp - 1)) with
            | true =>
              refine iteT ?_
              walk_at "ev"
              exact kR hd _ (Fr.refl _)
            | false =>
              refine iteF ?_
              exact kN hd _ (Fr.refl _)
          · have f3 := f2.trans e
            walk_at "ev"
            refine r_sum (ns := ((List.range xs.length).filter fun i => decide ((p.cs.getD i (0, 0)).1 ≤ (sp - 1))).map fun i => (p.cs.getD i (0, 0)).2) (SqL.of (by rw [List.map_map]; exact hD')) ?_
            rw [hlx, Pr.steep_is]
            walk_at "ev"
            rw [decide_eq_false (show ¬ (0 : Int) < x from h0)]
            walk_at "ev"
            rw [decide_eq_false (show ¬ (0 : Int) < x from h0)]
            walk_at "ev"
            have fs := p.f_step (sp - 1)
            rw [Int.sub_add_cancel] at fs
            unfold Pr.steep at fs
            refine ⟨⟨sp - 1, _, _, _, _, by rw [fs, Int.add_sub_cancel]; rfl, by omega, f3⟩, ?_⟩
            show (x - (sp - 1)).natAbs < (x - sp).natAbs
            omega
    · obtain ⟨v1, e1, v2, e2, sc, b, e3, q⟩ := c
      exact ⟨v1, e1, v2, e2, sc, b, e3, m _ _ q⟩
end

set_option Elab.async false
set_option linter.all false
set_option maxRecDepth 100000
set_option maxHeartbeats 4000000
set_option exponentiation.threshold 2000

abbrev dkE (c : Int × Int) : Key × V := (.inl c.1, .int c.2)
theorem put_pairs (l : List (Int × Int)) (s v : Int) (nd : (l.map (·.1)).Nodup) : ∃ l' : List (Int × Int), putK (l.map dkE) (.inl s) (.int v) = l'.map dkE ∧ (l'.map (·.1)).Nodup ∧ l'.length ≤ l.length + 1 ∧ ∀ c ∈ l', c ∈ l ∨ c = (s, v) := by
  have ea : ((l.map dkE).any fun kv => decide (kv.1 = .inl s)) = l.any fun c => decide (c.1 = s) := by
    rw [List.any_map]
    congr 1
    funext c
    show decide ((Sum.inl c.1 : Key) = .inl s) = decide (c.1 = s)
    by_cases e : c.1 = s
    · rw [decide_eq_true e, decide_eq_true (by rw [e])]
    · rw [decide_eq_false e, decide_eq_false (fun h => e (by injection h))]
  unfold putK
  rw [ea]
  cases h : l.any fun c => decide (c.1 = s) with
  | true =>
    rw [if_pos rfl]
    refine ⟨l.map fun c => if c.1 = s then (s, v) else c, ?_, ?_, by rw [List.length_map]; omega, fun c hc => ?_⟩
    · rw [List.map_map, List.map_map]
      refine List.map_congr_left fun c _ => ?_
      show (if (Sum.inl c.1 : Key) = .inl s then ((Sum.inl c.1 : Key), V.int v) else dkE c) = dkE (if c.1 = s then (s, v) else c)
      by_cases e : c.1 = s
      · rw [if_pos e, if_pos (by rw [e]), e]
      · rw [if_neg e, if_neg (fun h => e (by injection h))]
    · rw [List.map_map]
      have : (l.map ((fun x => x.1) ∘ fun c : Int × Int => if c.1 = s then (s, v) else c)) = l.map (·.1) := List.map_congr_left fun c _ => by
        show (if c.1 = s then (s, v) else c).1 = c.1
        by_cases e : c.1 = s
        · rw [if_pos e, e]
        · rw [if_neg e]
      rw [this]
      exact nd
    · obtain ⟨d, hd, rfl⟩ := List.mem_map.mp hc
      by_cases e : d.1 = s
      · rw [if_pos e]
        exact .inr rfl
      · rw [if_neg e]
        exact .inl hd
  | false =>
    rw [if_neg Bool.false_ne_true]
    refine ⟨l ++ [(s, v)], by rw [List.map_append]; rfl, ?_, by rw [List.length_append]; exact Nat.le_refl _, fun c hc => ?_⟩
    · rw [List.map_append, List.nodup_append]
      refine ⟨nd, by simp, fun a ha b hb e => ?_⟩
      obtain ⟨d, hd, rfl⟩ := List.mem_map.mp ha
      have hb : b = s := by simpa using hb
      have := List.any_eq_false.mp h d hd
      exact this (decide_eq_true (e.trans hb))
    · rcases List.mem_append.mp hc with h | h
      · exact .inl h
      · exact .inr (List.mem_singleton.mp h)
def look (l : List (Int × Int)) (s : Int) : Int := match valV (l.map dkE) (.inl s) with
  | some (V.int m) => m
  | _ => 0
theorem look_val : ∀ {l : List (Int × Int)} {s : Int}, s ∈ l.map (·.1) → ∃ m, valV (l.map dkE) (.inl s) = some (.int m) ∧ (s, m) ∈ l
  | c :: r, s, h => by
    by_cases e : c.1 = s
    · subst e
      exact ⟨c.2, valV_pos rfl, .head _⟩
    · have : s ∈ r.map (·.1) := by
        rcases List.mem_cons.mp h with h | h
        · exact absurd h.symm e
        · exact h
      obtain ⟨m, h1, h2⟩ := look_val this
      exact ⟨m, (valV_neg (show ¬ (dkE c).1 = .inl s from fun h => e (by injection h))).trans h1, .tail _ h2⟩
theorem look_is {l : List (Int × Int)} {s : Int} (h : s ∈ l.map (·.1)) : valV (l.map dkE) (.inl s) = some (.int (look l s)) ∧ (s, look l s) ∈ l := by
  obtain ⟨m, h1, h2⟩ := look_val h
  have : look l s = m := by
    unfold look
    rw [h1]
  rw [this]
  exact ⟨h1, h2⟩
def pairOd (c : Int × Int) : Od := .tup [.int c.1, .int c.2]
theorem OAll.of {H : Hp} : ∀ (vs : List V) (cs : List (Int × Int)), vs.length = cs.length → (∀ k, k < cs.length → ∃ b, vs[k]? = some (.ref b) ∧ H b = some (.tup [.int (cs.getD k (0, 0)).1, .int (cs.getD k (0, 0)).2])) → OAll H vs (cs.map pairOd)
  | [], [], _, _ => .nil
  | [], _ :: _, h, _ => nomatch h
  | _ :: _, [], h, _ => nomatch h
  | v :: vs, c :: cs, h, f => by
    obtain ⟨b, e, hb⟩ := f 0 (Nat.succ_pos _)
    obtain rfl : v = .ref b := Option.some.inj e
    exact .cons (.tup hb (.cons (.int _) (.cons (.int _) .nil))) (OAll.of vs cs (Nat.succ.inj h) fun k hk => f (k + 1) (Nat.succ_lt_succ hk))
/-- [(x, y) for ..]: fresh pairs -/
theorem lc_pairs {J : It} {n : Nat} {GG : Hp → Prop} {Y : Nat → Hp → V → Hp → Prop} {g : TG} {te : TE} {vs : List Nat} {σ : L2.St} {H1 : Hp} {Q : VK} (w : Walk J n GG Y) (f : Nat → Int × Int) (hn : n ≤ 100000) (hG : ∀ H', Fr [] H1 H' → GG H') (hY : ∀ i H' x H'', Y i H' x H'' → Fr [] H' H'')
    (he : ∀ i x H' H'' (R : VK), i < n → Fr [] H1 H' → Y i H' x H'' → (∀ b H4, Fr [] H'' H4 → H4 b = some (.tup [.int (f i).1, .int (f i).2]) → R (.ref b) H4) → g x (wipe σ vs) H'' fun σ2 H2 => wipe σ2 vs = wipe σ vs ∧ te σ2 H2 R)
    (hd : ∀ D H' acc, H1 D = none → Fr [] H1 H' → H' D = some (.lst acc) → OAll H' acc (((List.range n).map f).map pairOd) → Q (.ref D) H') : LcJ g tYes te vs σ Q J H1 := by
  intro D hD
  refine lc_it w (fun i H' => i ≤ n ∧ Fr [] H1 H' ∧ ∃ acc : List V, acc.length = i ∧ H' D = some (.lst acc) ∧ ∀ k, k < i → ∃ b, acc[k]? = some (.ref b) ∧ H' b = some (.tup [.int (f k).1, .int (f k).2])) ⟨Nat.zero_le _, (Fr.refl H1).mut hD, [], rfl, upd_same, fun k hk => absurd hk (Nat.not_lt_zero _)⟩ (fun i H' _ p => hG H' p.2.1) (fun i x H' H'' hi p y => ?_) (fun H' p => ?_)
  · obtain ⟨p1, p2, acc, p3, p4, p5⟩ := p
    have hf := hY i H' x H'' y
    refine he i x H' H'' _ hi p2 y fun b H4 e4 hb => ?_
    have e5 : Fr [] H' H4 := hf.trans e4
    have hD4 := e5 _ _ (fun z => nomatch z) p4
    refine ⟨acc, hD4, ?_, hi, (p2.trans e5).mut hD, acc ++ [.ref b], by rw [List.length_append, p3]; rfl, upd_same, fun k hk => ?_⟩
    · exact Nat.lt_of_lt_of_le (show acc.length < 100001 by omega) (by decide)
    · have keep : ∀ {c : Addr} {xs : List V}, H4 c = some (.tup xs) → upd H4 D (.lst (acc ++ [.ref b])) c = some (.tup xs) := fun {c xs} hc => by
        rw [upd_ne (fun z => by rw [z, hD4] at hc; cases hc)]
        exact hc
      by_cases e : k = i
      · subst e
        exact ⟨b, by rw [List.getElem?_append_right (by omega), p3, Nat.sub_self]; rfl, keep hb⟩
      · obtain ⟨c, h1, h2⟩ := p5 k (by omega)
        exact ⟨c, by rw [List.getElem?_append_left (by omega)]; exact h1, keep (e5 _ _ (fun z => nomatch z) h2)⟩
  · obtain ⟨p1, p2, acc, p3, p4, p5⟩ := p
    refine hd D H' acc hD p2 p4 (OAll.of acc _ (by rw [List.length_map, List.length_range]; exact p3) fun k hk => ?_)
    rw [List.length_map, List.length_range] at hk
    rw [List.getD_eq_getElem?_getD, List.getElem?_map, List.getElem?_range hk]
    exact p5 k hk
theorem Pr.isPrice {p : Pr} (hl : p.cs.length ≤ 12) (ha : ∀ i, i + 1 < p.cs.length → (p.cs.getD i (0, 0)).1 < (p.cs.getD (i + 1) (0, 0)).1) (hm : ∀ c ∈ p.cs, 1 ≤ c.2) : p.od.price = true := by
  have el : p.co.length = p.cs.length := List.length_map _
  have eg : ∀ i, i < p.cs.length → p.co.getD i .non = pairOd (p.cs.getD i (0, 0)) := fun i hi => by
    unfold Pr.co
    rw [List.getD_eq_getElem?_getD, List.getElem?_map, List.getD_eq_getElem?_getD, List.getElem?_eq_getElem hi]
    rfl
  show (true && (decide (p.co.length ≤ 12) && (p.co.all Od.pair && cornersOk p.co))) = true
  rw [el, decide_eq_true hl, Bool.true_and, Bool.true_and]
  have e1 : p.co.all Od.pair = true := List.all_eq_true.mpr fun d hd => by
    obtain ⟨c, _, rfl⟩ := List.mem_map.mp hd
    rfl
  rw [e1, Bool.true_and]
  unfold cornersOk
  rw [Bool.and_eq_true, List.all_eq_true, List.all_eq_true, el]
  refine ⟨fun i hi => ?_, fun i hi => ?_⟩
  · have hi := List.mem_range.mp hi
    rw [eg i (by omega), eg (i + 1) (by omega)]
    exact decide_eq_true (ha i (by omega))
  · have hi := List.mem_range.mp hi
    rw [eg i hi]
    refine decide_eq_true (hm (p.cs.getD i (0, 0)) ?_)
    rw [List.getD_eq_getElem?_getD, List.getElem?_eq_getElem hi]
    exact List.getElem_mem _
theorem r_dput {td ty tv : TE} {D : Ends} {σ : L2.St} {H : Hp} (h : tv σ H fun v H1 => td σ H1 fun x H2 => ty σ H2 fun y H3 => ∃ a H4, x = .ref a ∧ DPut H3 a y v H4 ∧ D.nx σ H4) : sDPut td ty tv D σ H := h
theorem r_dget {td ty : TE} {σ : L2.St} {H : Hp} {Q : VK} (h : td σ H fun x H1 => ty σ H1 fun y H2 => ∃ a v, x = .ref a ∧ DGet H2 a y (some v) ∧ Q v H2) : tDGet td ty σ H Q := h
/-- a price lies, its list beside the jar -/
def PAt (H : Hp) (j : Addr) (v : V) (p : Pr) : Prop := ∃ (a b : Addr) (xs : List V), v = .ref a ∧ H a = some (.tup [.int p.s, .ref b]) ∧ b ≠ j ∧ H b = some (.lst xs) ∧ xs.length = p.cs.length ∧ ∀ k, k < p.cs.length → ∃ c, xs[k]? = some (.ref c) ∧ H c = some (.tup [.int (p.cs.getD k (0, 0)).1, .int (p.cs.getD k (0, 0)).2])
theorem PAt.o {H : Hp} {j : Addr} {v : V} {p : Pr} (h : PAt H j v p) : OAt H v p.od := by
  obtain ⟨a, b, xs, rfl, ha, _, hb, hl, hc⟩ := h
  exact .tup ha (.cons (.int _) (.cons (.lst hb (OAll.of xs p.cs hl hc)) .nil))
theorem PAt.mono {H H' : Hp} {j : Addr} {v : V} {p : Pr} {n : Nat} (h : PAt H j v p) (J : JarAt H j n) (f : Fr [j] H H') : PAt H' j v p := by
  obtain ⟨a, b, xs, rfl, ha, nb, hb, hl, hc⟩ := h
  obtain ⟨_, _, _, e, _⟩ := J
  have tn : ∀ {c : Addr} {ys : List V}, H c = some (.tup ys) → c ∉ [j] := fun {c ys} hc m => by
    have : c = j := by simpa using m
    subst this
    rw [e] at hc
    cases hc
  exact ⟨a, b, xs, rfl, f _ _ (tn ha) ha, nb, f _ _ (by simpa using nb) hb, hl, fun k hk => by
    obtain ⟨c, h1, h2⟩ := hc k hk
    exact ⟨c, h1, f _ _ (tn h2) h2⟩⟩
section
variable {P : Program} {w : World} {K : PySem.W.Frag} {mg : Str → Option Value} {base : Heap}
def sp__law_price (K : PySem.W.Frag) : Sp := fun vs H Q _ => ∃ (j a : Addr) (ns : List Int) (m : Nat), vs = [.ref j, .ref a] ∧ H a = some (.lst (ns.map V.int)) ∧ a ≠ j ∧ (1 ≤ ns.length ∧ ns.length ≤ 10) ∧ (∀ x ∈ ns, -(2 ^ 96) ≤ x ∧ x ≤ 2 ^ 96) ∧ JarAt H j (m + 100) ∧ ∀ (v : V) (p : Pr) (H' : Hp), Fr [j] H H' → JarAt H' j m → PAt H' j v p → p.od.price = true → p.Sm → Q v H'
theorem k__law_price (T : Tx fa fn K mg base) : Fk P w K mg base "_law_price" ["jar", "near"] 2 (sp__law_price K) s__law_price "_law_price" := by
  refine T.fk 10 25 (q := "_law_price") (st := s__law_price) sc__law_price (fun _ _ _ _ _ _ us hl => match us, hl with | [_, _], _ => rfl) (fun vs H Q E h => ?_) (fun cdv A outer s H vs Q E hr h => ?_)
  · obtain ⟨j, a, ns, m, rfl, _⟩ := h
    rfl
  · obtain ⟨j, a, ns, m, rfl, ha, hne, hn, hb, hj, k⟩ := h
    have hln : (ns.map V.int).length = ns.length := List.length_map _
    refine ⟨_, (pss_cons (ps_set (i := 2) sc__law_price.nd rfl (by first | exact Or.inl rfl | exact Or.inr rfl) pe_dnewK)
      (pss_cons (ps_for PassesOwn.never rfl (pi_range1 (by rfl) (T.fr 24) (pa_cons (pe_f (k__law_dip T) hr (pa_cons (pv 0) (pa_cons pe_int pa_nil))) pa_nil)) (pg_name (i := 3) sc__law_price.nd rfl (by first | exact Or.inl rfl | exact Or.inr rfl)) (pss_cons (ps_set (i := 4) sc__law_price.nd rfl (by first | exact Or.inl rfl | exact Or.inr rfl) (pe_op op_sub (pe_op op_add (pe_ix ix_list (pv 1) (pe_f (k__law_dip T) hr (pa_cons (pv 0) (pa_cons (pe_callB call_len_seq (by rfl) (T.fr 5) (by decide +kernel) (pa_cons (pv 1) pa_nil)) pa_nil))) (fun _ _ => rfl)) (pe_f (k__law_dip T) hr (pa_cons (pv 0) (pa_cons pe_int pa_nil)))) pe_int))
      (pss_one (ps_dput (hu1 hr) (pv 2) (pv 4) (pe_op op_add pe_int (pe_f (k__law_dip T) hr (pa_cons (pv 0) (pa_cons (pe_ix ix_list (pe_lst (pa_cons pe_int (pa_cons (pe_op op_powW pe_int pe_int) pa_nil))) (pe_f (k__law_dip T) hr (pa_cons (pv 0) (pa_cons pe_int pa_nil))) (fun _ _ => rfl)) pa_nil)))) rfl))))
      (pss_one (ps_ret (pe_tup (pa_cons (pe_op op_sub (pe_f (k__law_dip T) hr (pa_cons (pv 0) (pa_cons pe_int pa_nil))) pe_int) (pa_cons (pe_lc (own := [("spot", 4)]) (tt := tYes) (te := (tTup (tCons (tVar 4) (tCons (tDGet (tVar 2) (tVar 4)) tNil)))) rfl sc__law_price.nd (pi_list (pe_callB cr_sortedI (by rfl) (T.fr 23) (by decide +kernel) (pa_cons (pe_callTy (call_list_dK rfl) (by rfl) (T.fr 7) (by decide +kernel) (pa_cons (pv 2) pa_nil)) pa_nil))) (blkOk_by (N := ["jar", "near", "corners_here", "turn", "spot"]) (sc := defScope s__law_price) (by decide +kernel)) (fun _ _ _ _ _ => (pg_name (i := 4) sc__law_price.nd rfl (by first | exact Or.inl rfl | exact Or.inr rfl))) (fun _ _ _ _ _ => pts_nil) (fun _ _ _ _ _ => (pe_tup (pa_cons (pv 4) (pa_cons (pe_dget (hu1 hr) (pv 2) (pv 4) (fun _ _ => rfl)) pa_nil))))) pa_nil))))))), ?_⟩
    walk_at "ev0"
    intro dd kd
    have z1 := (ZJ.start hj).alloc (.dK []) kd
    walk_at "ev"
    refine ⟨j, 13, m + 99, rfl, z1.jar.le (by omega), by decide, by decide, fun n H2 v0 v1 f2 q2 => ?_⟩
    have z2 := z1.dips f2 q2
    walk_at "ev"
    refine ⟨by omega, by omega, ?_⟩
    refine for_it (walk_range (lo := 0)) (fun i σ H' => ∃ (l : List (Int × Int)) (u3 u4 : Option V), σ = [some (.ref j), some (.ref a), some (.ref dd), u3, u4] ∧ ZJ H H' j (m + 40 + 4 * (n.toNat - i)) [(2, dd, .dK (l.map dkE))] ∧ (l.map (·.1)).Nodup ∧ l.length ≤ i ∧ ∀ c ∈ l, Me c.1 ∧ 1 ≤ c.2 ∧ c.2 ≤ 2 ^ 40) ⟨[], none, none, rfl, z2.le (by omega), List.nodup_nil, Nat.le_refl _, fun _ h => nomatch h⟩ (fun _ _ _ _ _ => trivial) (fun i x σ H3 H3' hi pp y => ?_) (fun σ H3 pp => ?_)
    · obtain ⟨l, u3, u4, rfl, z3, nd, ll, hc⟩ := pp
      obtain ⟨rfl, rfl⟩ := y
      have hi' : i < n.toNat := by omega
      generalize hr0 : m + 40 + 4 * (n.toNat - (i + 1)) = r
      have z3 := z3.le (m := r + 4) (by omega)
      have ha3 := z3.keep ha hne
      walk_at "ev"
      refine ⟨j, _, r + 3, rfl, z3.jar.le (by omega), by omega, by rw [hln]; exact Int.lt_of_le_of_lt (show (ns.length : Int) ≤ 10 by omega) (by decide +kernel), fun v1 H4 a1 b1 f4 q4 => ?_⟩
      have z4 := z3.dips f4 q4
      have ha4 := z4.keep ha hne
      rw [hln] at b1
      walk_at "ev"
      obtain ⟨k1, rfl⟩ := Int.eq_ofNat_of_zero_le a1
      refine r_at (atN (i := k1) (by omega)) ?_
      have hx := hb _ (nth_mem (ns := ns) (i := k1) (by omega))
      generalize nth ns k1 = sp at hx ⊢
      walk_at "ev"
      refine ⟨j, 5, r + 2, rfl, z4.jar.le (by omega), by decide, by decide, fun v2 H5 a2 b2 f5 q5 => ?_⟩
      have z5 := z4.dips f5 q5
      walk_at "ev"
      dsimp only
      refine r_dput ?_
      walk_at "ev"
      intro t6 k6
      have z6 := z5.alloc (.lst [.int 3, .int (10 ^ Int.toNat 6)]) k6
      walk_at "ev"
      refine ⟨j, 2, r + 1, rfl, z6.jar.le (by omega), by decide, by decide, fun v3 H7 a3 b3 f7 q7 => ?_⟩
      have z7 := z6.dips f7 q7
      obtain ⟨M, em, hM⟩ : ∃ M : Int, atI [V.int 3, V.int (10 ^ Int.toNat 6)] v3 = some (.int M) ∧ (1 ≤ M ∧ M ≤ 2 ^ 30) := by
        rcases (show v3 = 0 ∨ v3 = 1 by omega) with rfl | rfl
        · exact ⟨3, rfl, by decide +kernel, by decide +kernel⟩
        · exact ⟨_, rfl, by decide +kernel, by decide +kernel⟩
      walk_at "ev"
      refine r_at em ?_
      walk_at "ev"
      refine ⟨j, M, r, rfl, z7.jar.le (by omega), by omega, Int.lt_of_le_of_lt hM.2 (by decide +kernel), fun v4 H8 a4 b4 f8 q8 => ?_⟩
      have z8 := (z7.dips f8 q8).sub (List.sublist_cons_self _ _)
      walk_at "ev"
      obtain ⟨l', e1, e2, e3, e4⟩ := put_pairs l (sp + v2 - 2) (1 + v4) nd
      refine ⟨dd, _, rfl, .k (k := .inl (sp + v2 - 2)) (z8.get (.head _)) ?_, l', _, _, rfl, by rw [e1]; exact z8.set 0 (.dK (l'.map dkE)) rfl, e2, by omega, fun c hc' => ?_⟩
      · rw [List.length_map]
        exact Nat.lt_of_lt_of_le (show l.length < 100001 by omega) (by decide)
      · rcases e4 c hc' with h | rfl
        · exact hc c h
        · have p1 : (2 : Int) ^ 96 + 100 ≤ 2 ^ 100 := by decide +kernel
          have p2 : (2 : Int) ^ 30 + 1 ≤ 2 ^ 40 := by decide +kernel
          refine ⟨?_, ?_, ?_⟩
          · unfold Me
            dsimp only
            omega
          · dsimp only
            omega
          · dsimp only
            omega
    · obtain ⟨l, u3, u4, rfl, z3, nd, ll, hc⟩ := pp
      walk_at "ev"
      refine ⟨j, 9, m, rfl, z3.jar.le (by omega), by decide, by decide, fun v5 H4 a5 b5 f4 q4 => ?_⟩
      have z4 := z3.dips f4 q4
      walk_at "ev"
      refine ⟨dd, _, rfl, z4.get (.head _), fun q kq => ?_⟩
      have e0 : (l.map dkE).map (fun kv => kV kv.1) = (l.map (·.1)).map V.int := by
        rw [List.map_map, List.map_map]
        rfl
      rw [e0]
      have z5 := z4.alloc (.lst ((l.map (·.1)).map V.int)) kq
      walk_at "ev"
      refine r_sortI (SqL.of (z5.get (.head _))) fun ks p hp hs kp => ?_
      have z6 := z5.alloc (.lst (ks.map V.int)) kp
      have hkl : ks.length = l.length := by rw [hp.length_eq, List.length_map]
      have hks : (ks.map V.int).length = ks.length := List.length_map _
      have hmem : ∀ i, i < ks.length → nth ks i ∈ l.map (·.1) := fun i hi => hp.mem_iff.mp (nth_mem hi)
      walk_at "ev"
      refine lc_pairs (walk_list (xs := ks.map V.int)) (fun i => (nth ks i, look l (nth ks i))) (by omega) (fun H' e => SqL.of (e _ _ nin (z6.get (.head _)))) (fun i H' x H'' y => by rw [y.1]; exact Fr.refl _) (fun i z H' H'' R hi e y kR => ?_) (fun D H' acc hD e hD' ho => ?_)
      · obtain ⟨rfl, hx⟩ := y
        rw [nth_at hx]
        have hi' : i < ks.length := by omega
        obtain ⟨l1, l2⟩ := look_is (hmem i hi')
        walk_at "ev"
        refine ⟨rfl, ?_⟩
        walk_at "ev"
        refine r_dget ?_
        walk_at "ev"
        have g := DGet.k (k := .inl (nth ks i)) (e _ _ nin (z6.get (.tail _ (.tail _ (.head _)))))
        rw [l1] at g
        refine ⟨dd, _, rfl, g, ?_⟩
        walk_at "ev"
        intro t9 k9
        exact kR _ _ ((Fr.refl _).new k9) upd_same
      · have z7 := z6.comp e hD hD'
        walk_at "ev"
        intro t8 k8
        have z8 := z7.alloc (.tup [.int (v5 - 4), .ref D]) k8
        rw [hks] at ho
        have f8 : Fr [] H' (upd H' t8 (.tup [.int (v5 - 4), .ref D])) := (Fr.refl _).new k8
        have nk : ks.Nodup := hp.nodup_iff.mpr nd
        have eg : ∀ i, i < ks.length → (((List.range ks.length).map fun i => (nth ks i, look l (nth ks i))).getD i (0, 0)) = (nth ks i, look l (nth ks i)) := fun i hi => by
          rw [List.getD_eq_getElem?_getD, List.getElem?_map, List.getElem?_range hi]
          rfl
        have hall : ∀ c ∈ (List.range ks.length).map (fun i => (nth ks i, look l (nth ks i))), Me c.1 ∧ 1 ≤ c.2 ∧ c.2 ≤ 2 ^ 40 := fun c h => by
          obtain ⟨i, hi, rfl⟩ := List.mem_map.mp h
          exact hc _ (look_is (hmem i (List.mem_range.mp hi))).2
        refine k _ ⟨v5 - 4, (List.range ks.length).map fun i => (nth ks i, look l (nth ks i))⟩ _ z8.fr z8.jar ⟨t8, D, acc, rfl, z8.get (.head _), z8.ne _ (.tail _ (.head _)), z8.get (.tail _ (.head _)), by rw [ho.length, List.length_map], fun i hi => ?_⟩ ?_ ?_
        · have t8' := ho.mono f8
          have hi2 : i < acc.length := by
            rw [ho.length, List.length_map]
            exact hi
          obtain ⟨c, e1, e2⟩ := Pr.corner (p := ⟨v5 - 4, (List.range ks.length).map fun i => (nth ks i, look l (nth ks i))⟩) t8' (List.getElem?_eq_getElem hi2)
          exact ⟨c, by rw [List.getElem?_eq_getElem hi2, e1], e2⟩
        · refine Pr.isPrice ?_ ?_ ?_
          · show ((List.range ks.length).map _).length ≤ 12
            rw [List.length_map, List.length_range]
            omega
          · intro i hi
            have hi : i + 1 < ((List.range ks.length).map fun i => (nth ks i, look l (nth ks i))).length := hi
            rw [List.length_map, List.length_range] at hi
            show ((((List.range ks.length).map fun i => (nth ks i, look l (nth ks i)))).getD i (0, 0)).1 < ((((List.range ks.length).map fun i => (nth ks i, look l (nth ks i)))).getD (i + 1) (0, 0)).1
            rw [eg i (by omega), eg (i + 1) hi]
            show nth ks i < nth ks (i + 1)
            have p1 := List.pairwise_iff_getElem.mp hs i (i + 1) (by omega) hi (Nat.lt_succ_self _)
            have p2 := List.pairwise_iff_getElem.mp nk i (i + 1) (by omega) hi (Nat.lt_succ_self _)
            rw [getElem_nth, getElem_nth] at p1 p2
            omega
          · exact fun c h => (hall c h).2.1
        · refine ⟨?_, ?_, hall⟩
          · show ((List.range ks.length).map _).length ≤ 1000
            rw [List.length_map, List.length_range]
            omega
          · show -1000 ≤ v5 - 4 ∧ v5 - 4 ≤ 1000
            omega
end

set_option Elab.async false
set_option linter.all false
set_option maxRecDepth 100000
set_option maxHeartbeats 4000000
set_option exponentiation.threshold 2000

def Pr.py (p : Pr) : PyData := .tuple [.int p.s, .list (p.cs.map fun c => .tuple [.int c.1, .int c.2])]
theorem dp_pairs {K : PySem.W.Frag} {H : Hp} : ∀ {vs : List V} {cs : List (Int × Int)}, OAll H vs (cs.map pairOd) → DpAll K H vs (cs.map fun c => PyData.tuple [.int c.1, .int c.2])
  | _, [], .nil => .nil
  | _, c :: cs, .cons h t => by
    refine .cons ?_ (dp_pairs t)
    cases h with
    | tup ha t2 =>
      cases t2 with
      | cons h1 t2 =>
        cases t2 with
        | cons h2 t2 =>
          cases t2
          cases h1
          cases h2
          exact .tup (SqT.of ha) (.cons (.int _) (.cons (.int _) .nil))
theorem Pr.dp {K : PySem.W.Frag} {H : Hp} {v : V} {p : Pr} (h : OAt H v p.od) : ∃ a, v = .ref a ∧ Dp K H v p.py := by
  obtain ⟨a, b, xs, rfl, ha, hb, t⟩ := Pr.lies h
  exact ⟨a, rfl, .tup (SqT.of ha) (.cons (.int _) (.cons (.lst (SqL.of hb) (dp_pairs t)) .nil))⟩
theorem Me.sm {x : Int} (h : Me x) : Sm x := by
  have : (2 : Int) ^ 100 ≤ 2 ^ 180 := by decide +kernel
  unfold Me at h
  unfold Sm
  omega
theorem pairs_show : ∀ {cs : List (Int × Int)}, (∀ c ∈ cs, Sm c.1 ∧ Sm c.2) → PyData.showableAll (cs.map fun c => PyData.tuple [.int c.1, .int c.2]) = true ∧ PyData.hasDictAll (cs.map fun c => PyData.tuple [.int c.1, .int c.2]) = false ∧ PyData.depthAll (cs.map fun c => PyData.tuple [.int c.1, .int c.2]) ≤ 5 ∧
    ((PyData.shownAll (cs.map fun c => PyData.tuple [.int c.1, .int c.2])).map (·.length)).sum ≤ 400 * cs.length ∧ (PyData.shownAll (cs.map fun c => PyData.tuple [.int c.1, .int c.2])).length = cs.length
  | [], _ => ⟨rfl, rfl, by decide, Nat.le_refl _, rfl⟩
  | c :: r, h => by
    obtain ⟨i1, i2, i3, i4, i5⟩ := pairs_show (cs := r) fun y hy => h y (.tail _ hy)
    have hc := h c (.head _)
    have hs : ∀ x ∈ [c.1, c.2], Sm x := fun x hx => by
      rcases List.mem_cons.mp hx with rfl | hx
      · exact hc.1
      · rw [List.mem_singleton.mp hx]
        exact hc.2
    have s1 := show_ints hs
    have s2 := dict_ints (ns := [c.1, c.2])
    have s3 := depth_ints [c.1, c.2]
    have s4 := len_ints hs
    simp only [List.map_cons, List.map_nil] at s1 s2 s3 s4
    have t := tupleText_len_le (PyData.shownAll [PyData.int c.1, PyData.int c.2])
    refine ⟨?_, ?_, ?_, ?_, ?_⟩
    · rw [List.map_cons, PyData.showableAll, PyData.showable, s1, i1]
      rfl
    · rw [List.map_cons, PyData.hasDictAll, PyData.hasDict, s2, i2]
      rfl
    · rw [List.map_cons, PyData.depthAll, PyData.depth, s3]
      omega
    · rw [List.map_cons, PyData.shownAll, PyData.shown, List.map_cons, List.sum_cons, List.length_cons]
      simp only [List.length_cons, List.length_nil] at s4
      omega
    · rw [List.map_cons, PyData.shownAll, List.length_cons, List.length_cons, i5]
theorem Pr.Sm.py {p : Pr} (h : p.Sm) (hl : p.cs.length ≤ 12) : p.py.showable = true ∧ p.py.hasDict = false ∧ p.py.depth ≤ 60 ∧ p.py.shown.length ≤ sizeLine := by
  have ss : Ev.Sm p.s := Me.sm (by
    have := h.s
    have : (1000 : Int) ≤ 2 ^ 100 := by decide +kernel
    unfold Me
    omega)
  have sc : ∀ c ∈ p.cs, Ev.Sm c.1 ∧ Ev.Sm c.2 := fun c hc => by
    have := h.c c hc
    have e : (2 : Int) ^ 40 ≤ 2 ^ 100 := by decide +kernel
    exact ⟨Me.sm this.1, Me.sm (by unfold Me; omega)⟩
  obtain ⟨i1, i2, i3, i4, i5⟩ := pairs_show sc
  have st := ss.text
  have sl := ss.log
  have l1 := listText_len_le (PyData.shownAll (p.cs.map fun c => PyData.tuple [.int c.1, .int c.2]))
  have l2 := tupleText_len_le (PyData.shownAll [PyData.int p.s, .list (p.cs.map fun c => PyData.tuple [.int c.1, .int c.2])])
  unfold Pr.py
  refine ⟨?_, ?_, ?_, ?_⟩
  · rw [PyData.showable, PyData.showableAll, PyData.showable, PyData.showableAll, PyData.showable, i1, decide_eq_true (by omega)]
    rfl
  · rw [PyData.hasDict, PyData.hasDictAll, PyData.hasDict, PyData.hasDictAll, PyData.hasDict, i2]
    rfl
  · rw [PyData.depth, PyData.depthAll, PyData.depthAll, PyData.depth, PyData.depth]
    show _ ≤ 60
    simp only [PyData.depthAll]
    omega
  · rw [PyData.shown]
    refine Nat.le_trans l2 (Nat.le_trans ?_ (show 100000 ≤ sizeLine by decide))
    simp only [PyData.shownAll, List.map_cons, List.map_nil, List.sum_cons, List.sum_nil, List.length_cons, List.length_nil]
    rw [PyData.shown.eq_def (.list _)]
    dsimp only
    omega
theorem price_len {p : Pr} (h : p.od.price = true) : p.cs.length ≤ 12 := by
  have el : p.co.length = p.cs.length := List.length_map _
  have h : (true && (decide (p.co.length ≤ 12) && (p.co.all Od.pair && cornersOk p.co))) = true := h
  rw [Bool.true_and, Bool.and_eq_true, el] at h
  exact of_decide_eq_true h.1
theorem mul_bd {x y : Int} {a b : Nat} (hx : x.natAbs ≤ a) (hy : y.natAbs ≤ b) : -((a * b : Nat) : Int) ≤ x * y ∧ x * y ≤ ((a * b : Nat) : Int) := by
  have h : (x * y).natAbs ≤ a * b := by
    rw [Int.natAbs_mul]
    exact Nat.mul_le_mul hx hy
  omega
theorem Pr.f_bd {p : Pr} (sm : p.Sm) {x : Int} (h : Me x) : -(2 ^ 160) ≤ p.f x ∧ p.f x ≤ 2 ^ 160 := by
  have e0 : (2 : Int) ^ 100 + 2 ^ 100 = 2 ^ 101 := by decide +kernel
  have hs : ∀ y ∈ p.cs.map fun c => c.2 * (mx (x - c.1) - mx (-c.1)), -(((2 ^ 40 * 2 ^ 103 : Nat)) : Int) ≤ y ∧ y ≤ ((2 ^ 40 * 2 ^ 103 : Nat) : Int) := fun y hy => by
    obtain ⟨c, hc, rfl⟩ := List.mem_map.mp hy
    have s1 := sm.c c hc
    unfold Me at h s1
    have a1 := mx_small (x := x - c.1) (by omega)
    have a2 := mx_small (x := -c.1) (by omega)
    have e1 : ((2 ^ 40 : Nat) : Int) = 2 ^ 40 := by decide +kernel
    have e2 : ((2 ^ 103 : Nat) : Int) = 2 ^ 101 + 2 ^ 101 + 2 ^ 101 + 2 ^ 101 := by decide +kernel
    exact mul_bd (by omega) (by omega)
  have hsum := sum_small hs
  rw [List.length_map] at hsum
  have hl := sm.len
  have h1 : p.s.natAbs ≤ 1000 := by have := sm.s; omega
  have e3 : ((2 ^ 100 : Nat) : Int) = 2 ^ 100 := by decide +kernel
  have h2 : x.natAbs ≤ 2 ^ 100 := by
    unfold Me at h
    omega
  have h3 := mul_bd h1 h2
  have h4 : (p.cs.length : Int) * ((2 ^ 40 * 2 ^ 103 : Nat) : Int) ≤ 1000 * ((2 ^ 40 * 2 ^ 103 : Nat) : Int) := Int.mul_le_mul_of_nonneg_right (by omega) (by decide +kernel)
  have e5 : (1000 : Int) * ((2 ^ 40 * 2 ^ 103 : Nat) : Int) + ((1000 * 2 ^ 100 : Nat) : Int) ≤ 2 ^ 160 := by decide +kernel
  unfold Pr.f
  omega
theorem Pr.f_sm {p : Pr} (sm : p.Sm) {x : Int} (h : Me x) : Ev.Sm (p.f x) := by
  have := Pr.f_bd sm h
  have e : (2 : Int) ^ 160 ≤ 2 ^ 180 := by decide +kernel
  unfold Ev.Sm
  omega
theorem r_neI {K : PySem.W.Frag} {H : Hp} {Q : VK} {a b : Addr} {ns ms : List Int} (ha : SqL K H a (ns.map V.int)) (hb : SqL K H b (ms.map V.int)) (q : Q (.bl (!decide (ns = ms))) H) : rNeD K (.ref a) (.ref b) H Q := by
  refine ⟨.list (ns.map PyData.int), .list (ms.map PyData.int), .lst ha (dpAll_ints ns), .lst hb (dpAll_ints ms), shaped_ints ns, shaped_ints ms, ?_⟩
  rw [PyData.eqv, PySem.W.ked_eqvAll]
  exact q
theorem sum_sm {p : Pr} (sm : p.Sm) {os : List Int} (h : ∀ x ∈ os, Me x) (hl : os.length ≤ 200) : Ev.Sm (os.map p.f).sum := by
  have hs : ∀ y ∈ os.map p.f, -(2 ^ 160 : Int) ≤ y ∧ y ≤ 2 ^ 160 := fun y hy => by
    obtain ⟨x, hx, rfl⟩ := List.mem_map.mp hy
    exact Pr.f_bd sm (h x hx)
  have h1 := sum_small hs
  rw [List.length_map] at h1
  have h4 : (os.length : Int) * 2 ^ 160 ≤ 200 * 2 ^ 160 := Int.mul_le_mul_of_nonneg_right (by omega) (by decide +kernel)
  have e5 : (200 : Int) * 2 ^ 160 ≤ 2 ^ 180 := by decide +kernel
  unfold Ev.Sm
  omega
theorem range_V (os : List Int) (g : Int → Int) : ((List.range os.length).map fun i => V.int (g (nth os i))) = (os.map g).map V.int := by
  rw [← range_mapI, List.map_map]
  rfl
section
variable {P : Program} {w : World} {K : PySem.W.Frag} {mg : Str → Option Value} {base : Heap}
def sp__law_prices_right (K : PySem.W.Frag) : Sp := fun vs H Q _ => ∃ (j : Addr) (m : Nat), vs = [.ref j] ∧ JarAt H j (m + 300) ∧ ∀ H', Fr [j] H H' → JarAt H' j m → Q (.bl true) H'
theorem k__law_prices_right (T : Tx fa fn K mg base) : FkG P w K mg base "_law_prices_right" ["jar"] 6 (sp__law_prices_right K) s__law_prices_right "_law_prices_right" := by
  refine T.fkG 13 29 (q := "_law_prices_right") (st := s__law_prices_right) sc__law_prices_right (fun _ _ _ _ _ _ us hl => match us, hl with | [_], _ => rfl) (fun vs H Q E h => ?_) (fun cdv A outer s H vs Q E gd hr h => ?_)
  · obtain ⟨j, m, rfl, _⟩ := h
    rfl
  · obtain ⟨j, m, rfl, hj, k⟩ := h
    refine ⟨_, (pss_cons (ps_set (i := 1) sc__law_prices_right.nd rfl (by first | exact Or.inl rfl | exact Or.inr rfl) (pe_f (k__law_price T) hr (pa_cons (pv 0) (pa_cons (pe_lst (pa_cons pe_int (pa_cons pe_int (pa_cons (pe_un un_neg pe_int) (pa_cons pe_int pa_nil))))) pa_nil))))
      (pss_cons (ps_set (i := 2) sc__law_prices_right.nd rfl (by first | exact Or.inl rfl | exact Or.inr rfl) (pe_callB (cr_repr gd hr.units) (by rfl) (T.fr 28) (by decide +kernel) (pa_cons (pv 1) pa_nil)))
      (pss_cons (ps_for PassesOwn.never rfl (pi_range2 (by rfl) (T.fr 24) (pa_cons (pe_un un_neg pe_int) (pa_cons pe_int pa_nil))) (pg_name (i := 3) sc__law_prices_right.nd rfl (by first | exact Or.inl rfl | exact Or.inr rfl)) (pss_cons (ps_set (i := 4) sc__law_prices_right.nd rfl (by first | exact Or.inl rfl | exact Or.inr rfl) (pe_f (k__law_steps T) hr (pa_cons (pv 1) (pa_cons (pv 3) pa_nil))))
      (pss_one (ps_if (PW.pt (pw_or (pt_cmpR op_ne (pe_callB SkE.call_repr_int (by rfl) (T.fr 28) (by decide +kernel) (pa_cons (pe_f (k_price_at T) hr (pa_cons (pv 1) (pa_cons (pv 3) pa_nil))) pa_nil)) (pe_callB SkE.call_repr_int (by rfl) (T.fr 28) (by decide +kernel) (pa_cons (pv 4) pa_nil)) (nomark _)) (pw_or1 (pt_cmpR op_ne (pe_f (k__law_cost T) hr (pa_cons (pv 1) (pa_cons (pv 3) pa_nil))) (pv 4) (nomark _))))) (pss_one (ps_ret pe_bl)) pss_nil))))
      (pss_cons (ps_set (i := 5) sc__law_prices_right.nd rfl (by first | exact Or.inl rfl | exact Or.inr rfl) (pe_f (k__law_price T) hr (pa_cons (pv 0) (pa_cons (pe_lst (pa_cons (pe_op op_powW pe_int pe_int) (pa_cons (pe_un un_neg (pe_op op_powW pe_int pe_int)) (pa_cons pe_int (pa_cons (pe_op op_powW pe_int pe_int) pa_nil))))) pa_nil))))
      (pss_cons (ps_setLc (i := 6) (own := [("turn", 7)]) (tt := tYes) (te := (tOp (rI0 fun i j => .int (i - j)) (tCall (sp__law_dip K) [] E0 (tCons (tVar 0) (tCons (tOp (rI CPowW fun i j => .int (i ^ j.toNat)) (tC (.int 10)) (tC (.int 28))) tNil))) (tOp (rI CPowW fun i j => .int (i ^ j.toNat)) (tC (.int 10)) (tC (.int 27))))) rfl sc__law_prices_right.nd rfl rfl (sw_true rfl rfl rfl (by decide +kernel)) (pi_range1 (by rfl) (T.fr 24) (pa_cons (pe_op op_add pe_int (pe_f (k__law_dip T) hr (pa_cons (pv 0) (pa_cons pe_int pa_nil)))) pa_nil)) (blkOk_by (N := ["jar", "price_here", "kept", "entry", "due", "great", "some", "turn"]) (sc := defScope s__law_prices_right) (by decide +kernel)) (fun _ _ _ _ _ => (pg_name (i := 7) sc__law_prices_right.nd rfl (by first | exact Or.inl rfl | exact Or.inr rfl))) (fun _ _ _ _ _ => pts_nil) (fun _ _ _ _ _ => (pe_op op_sub (pe_f (k__law_dip T) hr (pa_cons (pv 0) (pa_cons (pe_op op_powW pe_int pe_int) pa_nil))) (pe_op op_powW pe_int pe_int))))
      (pss_cons (ps_if (pt_cmpR (op_neD hr.units) (pe_lc (own := [("entry", 3)]) (tt := tYes) (te := (tCall (sp_price_at K) [] E0 (tCons (tVar 5) (tCons (tVar 3) tNil)))) rfl sc__law_prices_right.nd (pi_list (pv 6)) (blkOk_by (N := ["jar", "price_here", "kept", "entry", "due", "great", "some", "turn"]) (sc := defScope s__law_prices_right) (by decide +kernel)) (fun _ _ _ _ _ => (pg_name (i := 3) sc__law_prices_right.nd rfl (by first | exact Or.inl rfl | exact Or.inr rfl))) (fun _ _ _ _ _ => pts_nil) (fun _ _ _ _ _ => (pe_f (k_price_at T) hr (pa_cons (pv 5) (pa_cons (pv 3) pa_nil))))) (pe_lc (own := [("entry", 3)]) (tt := tYes) (te := (tCall (sp__law_cost K) [] E0 (tCons (tVar 5) (tCons (tVar 3) tNil)))) rfl sc__law_prices_right.nd (pi_list (pv 6)) (blkOk_by (N := ["jar", "price_here", "kept", "entry", "due", "great", "some", "turn"]) (sc := defScope s__law_prices_right) (by decide +kernel)) (fun _ _ _ _ _ => (pg_name (i := 3) sc__law_prices_right.nd rfl (by first | exact Or.inl rfl | exact Or.inr rfl))) (fun _ _ _ _ _ => pts_nil) (fun _ _ _ _ _ => (pe_f (k__law_cost T) hr (pa_cons (pv 5) (pa_cons (pv 3) pa_nil))))) (nomark _)) (pss_one (ps_ret pe_bl)) pss_nil)
      (pss_cons (ps_if (pt_cmpR op_ne (pe_callB SkE.call_repr_int (by rfl) (T.fr 28) (by decide +kernel) (pa_cons (pe_f (k_cost_of T) hr (pa_cons (pv 6) (pa_cons (pv 5) pa_nil))) pa_nil)) (pe_callB SkE.call_repr_int (by rfl) (T.fr 28) (by decide +kernel) (pa_cons (pe_callB (cr_sum rfl) (by rfl) (T.fr 15) (by decide +kernel) (pa_cons (pe_lc (own := [("entry", 3)]) (tt := tYes) (te := (tCall (sp__law_cost K) [] E0 (tCons (tVar 5) (tCons (tVar 3) tNil)))) rfl sc__law_prices_right.nd (pi_list (pv 6)) (blkOk_by (N := ["jar", "price_here", "kept", "entry", "due", "great", "some", "turn"]) (sc := defScope s__law_prices_right) (by decide +kernel)) (fun _ _ _ _ _ => (pg_name (i := 3) sc__law_prices_right.nd rfl (by first | exact Or.inl rfl | exact Or.inr rfl))) (fun _ _ _ _ _ => pts_nil) (fun _ _ _ _ _ => (pe_f (k__law_cost T) hr (pa_cons (pv 5) (pa_cons (pv 3) pa_nil))))) pa_nil)) pa_nil)) (nomark _)) (pss_one (ps_ret pe_bl)) pss_nil)
      (pss_one (ps_ret (pe_and (pe_cmpR op_eq (pe_callB (cr_repr gd hr.units) (by rfl) (T.fr 28) (by decide +kernel) (pa_cons (pv 1) pa_nil)) (pv 2) (nomark _)) (pe_and (pe_f (k_is_price T) hr (pa_cons (pv 5) pa_nil)) (pe_one (pe_f (k_is_price T) hr (pa_cons (pv 1) pa_nil)))))))))))))), ?_⟩
    walk_at "ev0"
    intro t1 k1
    have z1 := (ZJ.start hj).alloc (.lst [.int 0, .int 4, .int (-6), .int 10]) k1
    walk_at "ev"
    refine ⟨j, t1, [0, 4, -6, 10], m + 200, rfl, z1.get (.head _), z1.ne _ (.head _), by decide, fun x hx => by
      have hx : x ∈ [(0 : Int), 4, -6, 10] := hx
      have e : (10 : Int) ≤ 2 ^ 96 := by decide +kernel
      simp only [List.mem_cons, List.not_mem_nil, or_false] at hx
      omega, z1.jar.le (by omega), fun v p H2 f2 q2 pa hp sm => ?_⟩
    have z2 := z1.dips f2 q2
    have hl12 := price_len hp
    obtain ⟨a, rfl, dp⟩ := Pr.dp (K := K) pa.o
    walk_at "ev"
    refine ⟨a, _, rfl, dp, sm.py hl12, ?_⟩
    walk_at "ev"
    refine ⟨⟨by decide, by decide, by decide, by decide⟩, ?_⟩
    refine for_it (walk_range (lo := -12) (n := 25)) (fun i σ H' => ∃ u3 u4 : Option V, σ = [some (.ref j), some (.ref a), some (.str p.py.shown), u3, u4, none, none, none] ∧ Fr [] H2 H') ⟨none, none, rfl, Fr.refl _⟩ (fun _ _ _ _ _ => trivial) (fun i x σ H3 H3' hi pp y => ?_) (fun σ H3 pp => ?_)
    · obtain ⟨u3, u4, rfl, f3⟩ := pp
      obtain ⟨rfl, rfl⟩ := y
      have hme : Me (-12 + (i : Int)) := by
        have : (1000 : Int) ≤ 2 ^ 100 := by decide +kernel
        unfold Me
        omega
      have hlog := (Pr.f_sm sm hme).log
      walk_at "ev"
      refine ⟨_, p, _, rfl, pa.o.mono f3, sm, by omega, fun H4 f4 => ?_⟩
      walk_at "ev"
      refine ⟨_, p, _, rfl, pa.o.mono (f3.trans f4), hp, sm, hme, fun H5 f5 => ?_⟩
      have f5' := f3.trans (f4.trans f5)
      walk_at "ev"
      refine ⟨by omega, ?_⟩
      walk_at "ev"
      refine ⟨by omega, ?_⟩
      walk_at "ev"
      have ed : ∀ v : V, decide (v = v) = true := fun v => decide_eq_true rfl
      rw [ed]
      walk_at "ev"
      refine ⟨_, p, _, rfl, pa.o.mono f5', sm, hme, fun H6 f6 => ?_⟩
      walk_at "ev"
      rw [ed]
      walk_at "ev"
      exact ⟨_, _, rfl, f5'.trans f6⟩
    · obtain ⟨u3, u4, rfl, f3⟩ := pp
      have z3 := ((ZJ.start q2).same f3).le (m := m + 150) (by omega)
      walk_at "ev"
      intro t4 k4
      have z4 := z3.alloc (.lst [V.int (10 ^ Int.toNat 25), V.int (-10 ^ Int.toNat 27), V.int 0, V.int (10 ^ Int.toNat 9)]) k4
      walk_at "ev"
      refine ⟨j, t4, [10 ^ Int.toNat 25, -10 ^ Int.toNat 27, 0, 10 ^ Int.toNat 9], m + 50, rfl, z4.get (.head _), z4.ne _ (.head _), by decide, fun x hx => ?_, z4.jar.le (by omega), fun gv gp H5 f5 q5 ga ghp gsm => ?_⟩
      · have hx : x ∈ [(10 : Int) ^ Int.toNat 25, -10 ^ Int.toNat 27, 0, 10 ^ Int.toNat 9] := hx
        simp only [List.mem_cons, List.not_mem_nil, or_false] at hx
        rcases hx with rfl | rfl | rfl | rfl <;> exact ⟨by decide +kernel, by decide +kernel⟩
      have z5 := z4.dips f5 q5
      have y5 := ZJ.start q5
      walk_at "ev"
      refine ⟨j, 6, m + 40, rfl, y5.jar.le (by omega), by decide, by decide, fun v6 H6 a6 b6 f6 q6 => ?_⟩
      have y6 := y5.dips f6 q6
      walk_at "ev"
      refine ⟨by omega, by omega, ?_⟩
      refine lc_draw (c := 1) (m := m + 5) Me (walk_range (lo := 0) (n := (1 + v6).toNat)) (by omega) (y6.le (by omega)) (fun i' G D os R hi3 hos w0 kR => ?_) (fun D1 os H7 hos pos y7 => ?_)
      · refine r_name ⟨rfl, ?_⟩
        walk_at "ev"
        refine ⟨j, _, m + 5 + ((1 + v6).toNat - i') - 1, rfl, w0.jar.le (by omega), by decide +kernel, by decide +kernel, fun y1 G1 a1 b1 f1 q1 => ?_⟩
        walk_at "ev"
        refine kR _ _ ?_ ((w0.dips f1 q1).le (by omega))
        have e1 : (10 : Int) ^ Int.toNat 28 ≤ 2 ^ 98 := by decide +kernel
        have e2 : (10 : Int) ^ Int.toNat 27 ≤ 2 ^ 98 := by decide +kernel
        have e3 : (2 : Int) ^ 98 + 2 ^ 98 ≤ 2 ^ 100 := by decide +kernel
        have e4 : (0 : Int) ≤ 10 ^ Int.toNat 27 := by decide +kernel
        unfold Me
        omega
      have hol : 1 ≤ os.length ∧ os.length ≤ 200 := by omega
      have hosl : (os.map V.int).length = os.length := List.length_map _
      have gD := y7.get (.head _)
      have ga7 := ga.mono q5 y7.fr
      have pa7 := (pa.mono q2 z5.fr).mono q5 y7.fr
      walk_at "ev"
      refine lc_pure (walk_list (xs := os.map V.int)) (fun i => .int (gp.f (nth os i))) (by omega) (fun H' e => SqL.of (((Fr.refl _).trans e) _ _ nin gD)) (fun i H' x H'' y => by rw [y.1]; exact Fr.refl _) (fun i z H' H'' R hi e y kR => ?_) (fun D2 H8 hD2 e8 gD2 => ?_)
      · obtain ⟨rfl, hx⟩ := y
        rw [nth_at hx]
        walk_at "ev"
        refine ⟨rfl, ?_⟩
        walk_at "ev"
        refine ⟨gv, gp, nth os i, rfl, ga7.o.mono ((Fr.refl _).trans e), ghp, gsm, pos _ (nth_mem (by omega)), fun H3 f3 => ?_⟩
        exact kR _ f3
      walk_at "ev"
      have gD8 := e8 _ _ nin gD
      refine ⟨D1, rfl, ⟨_, SqL.of gD8⟩, ?_⟩
      refine lc_pure (walk_list (xs := os.map V.int)) (fun i => .int (gp.f (nth os i))) (by omega) (fun H' e => SqL.of ((e8.trans e) _ _ nin gD)) (fun i H' x H'' y => by rw [y.1]; exact Fr.refl _) (fun i z H' H'' R hi e y kR => ?_) (fun D3 H9 hD3 e9 gD3 => ?_)
      · obtain ⟨rfl, hx⟩ := y
        rw [nth_at hx]
        walk_at "ev"
        refine ⟨rfl, ?_⟩
        walk_at "ev"
        refine ⟨gv, gp, nth os i, rfl, ga7.o.mono (e8.trans e), gsm, pos _ (nth_mem (by omega)), fun H3 f3 => ?_⟩
        exact kR _ f3
      have e79 := e8.trans e9
      rw [hosl, range_V os gp.f] at gD2 gD3
      walk_at "ev"
      refine r_neI (SqL.of (e9 _ _ nin gD2)) (SqL.of gD3) ?_
      have edi : ∀ l : List Int, decide (l = l) = true := fun l => decide_eq_true rfl
      rw [edi]
      walk_at "ev"
      refine ⟨D1, gv, os, gp, rfl, e79 _ _ nin gD, hol, ga7.o.mono e79, ghp, gsm, pos, fun H10 f10 => ?_⟩
      have e710 := e79.trans f10
      have hlog := (sum_sm gsm pos hol.2).log
      walk_at "ev"
      refine ⟨by omega, ?_⟩
      walk_at "ev"
      refine ⟨D1, rfl, ⟨_, SqL.of (e710 _ _ nin gD)⟩, ?_⟩
      refine lc_pure (walk_list (xs := os.map V.int)) (fun i => .int (gp.f (nth os i))) (by omega) (fun H' e => SqL.of ((e710.trans e) _ _ nin gD)) (fun i H' x H'' y => by rw [y.1]; exact Fr.refl _) (fun i z H' H'' R hi e y kR => ?_) (fun D4 H11 hD4 e11 gD4 => ?_)
      · obtain ⟨rfl, hx⟩ := y
        rw [nth_at hx]
        walk_at "ev"
        refine ⟨rfl, ?_⟩
        walk_at "ev"
        refine ⟨gv, gp, nth os i, rfl, ga7.o.mono (e710.trans e), gsm, pos _ (nth_mem (by omega)), fun H3 f3 => ?_⟩
        exact kR _ f3
      rw [hosl, range_V os gp.f] at gD4
      have e711 := e710.trans e11
      walk_at "ev"
      refine ⟨by omega, ?_⟩
      walk_at "ev"
      have ed : ∀ v : V, decide (v = v) = true := fun v => decide_eq_true rfl
      rw [ed]
      walk_at "ev"
      have dp' : Dp K H11 (.ref a) p.py := by
        obtain ⟨_, _, h⟩ := Pr.dp (K := K) (pa7.o.mono e711)
        exact h
      refine ⟨a, _, rfl, dp', sm.py hl12, ?_⟩
      walk_at "ev"
      rw [ed]
      walk_at "ev"
      refine ⟨gv, _, rfl, ga7.o.mono e711, gsm.lim, fun H12 f12 => ?_⟩
      rw [ghp]
      walk_at "ev"
      refine ⟨.ref a, _, rfl, pa7.o.mono (e711.trans f12), sm.lim, fun H13 f13 => ?_⟩
      rw [hp]
      walk_at "ev"
      have e713 := e711.trans (f12.trans f13)
      exact k _ (((z2.fr.trans z5.fr).trans y7.fr).trans e713.up0) ((y7.jar.fr e713).le (by omega))
end

set_option Elab.async false
set_option linter.all false
set_option maxRecDepth 100000
set_option maxHeartbeats 4000000
set_option exponentiation.threshold 2000

mutual
/-- an object lies as d says, none of its addresses in E -/
inductive OB (E : List Addr) (H : Hp) : V → Od → Prop where
  | non : OB E H .non .non
  | bl (b : Bool) : OB E H (.bl b) (.bl b)
  | int (i : Int) : OB E H (.int i) (.int i)
  | str (s : Str) : OB E H (.str s) (.str s)
  | lst {a : Addr} {xs : List V} {ds : List Od} (n : a ∉ E) (h : H a = some (.lst xs)) (t : OBs E H xs ds) : OB E H (.ref a) (.lst ds)
  | tup {a : Addr} {xs : List V} {ds : List Od} (n : a ∉ E) (h : H a = some (.tup xs)) (t : OBs E H xs ds) : OB E H (.ref a) (.tup ds)
  | dic {a : Addr} (n : a ∉ E) (h : H a = some (.dK [])) : OB E H (.ref a) .dic
inductive OBs (E : List Addr) (H : Hp) : List V → List Od → Prop where
  | nil : OBs E H [] []
  | cons {v : V} {vs : List V} {d : Od} {ds : List Od} (h : OB E H v d) (t : OBs E H vs ds) : OBs E H (v :: vs) (d :: ds)
end
mutual
theorem OB.mono {E : List Addr} {H H' : Hp} (f : Fr E H H') : ∀ {v : V} {d : Od}, OB E H v d → OB E H' v d
  | _, _, .non => .non
  | _, _, .bl b => .bl b
  | _, _, .int i => .int i
  | _, _, .str s => .str s
  | _, _, .lst n h t => .lst n (f _ _ n h) (OBs.mono f t)
  | _, _, .tup n h t => .tup n (f _ _ n h) (OBs.mono f t)
  | _, _, .dic n h => .dic n (f _ _ n h)
theorem OBs.mono {E : List Addr} {H H' : Hp} (f : Fr E H H') : ∀ {vs : List V} {ds : List Od}, OBs E H vs ds → OBs E H' vs ds
  | _, _, .nil => .nil
  | _, _, .cons h t => .cons (OB.mono f h) (OBs.mono f t)
end
mutual
theorem OB.o {E : List Addr} {H : Hp} : ∀ {v : V} {d : Od}, OB E H v d → OAt H v d
  | _, _, .non => .non
  | _, _, .bl b => .bl b
  | _, _, .int i => .int i
  | _, _, .str s => .str s
  | _, _, .lst _ h t => .lst h (OBs.o t)
  | _, _, .tup _ h t => .tup h (OBs.o t)
  | _, _, .dic _ h => .dic h
theorem OBs.o {E : List Addr} {H : Hp} : ∀ {vs : List V} {ds : List Od}, OBs E H vs ds → OAll H vs ds
  | _, _, .nil => .nil
  | _, _, .cons h t => .cons (OB.o h) (OBs.o t)
end
theorem new_nin {H : Hp} {p a : Addr} {o : HO} (k : H p = none) (h : H a = some o) : a ∉ [p] := fun m => by
  have e : a = p := by simpa using m
  rw [e, k] at h
  cases h
mutual
/-- what lies now is not what is made next -/
theorem OAt.ob {H : Hp} {p : Addr} (k : H p = none) : ∀ {v : V} {d : Od}, OAt H v d → OB [p] H v d
  | _, _, .non => .non
  | _, _, .bl b => .bl b
  | _, _, .int i => .int i
  | _, _, .str s => .str s
  | _, _, .lst h t => .lst (new_nin k h) h (OAll.ob k t)
  | _, _, .tup h t => .tup (new_nin k h) h (OAll.ob k t)
  | _, _, .dic h => .dic (new_nin k h) h
theorem OAll.ob {H : Hp} {p : Addr} (k : H p = none) : ∀ {vs : List V} {ds : List Od}, OAll H vs ds → OBs [p] H vs ds
  | _, _, .nil => .nil
  | _, _, .cons h t => .cons (OAt.ob k h) (OAll.ob k t)
end
theorem OBs.append {E : List Addr} {H : Hp} : ∀ {vs us : List V} {ds es : List Od}, OBs E H vs ds → OBs E H us es → OBs E H (vs ++ us) (ds ++ es)
  | _, _, _, _, .nil, u => u
  | _, _, _, _, .cons h t, u => .cons h (OBs.append t u)
theorem OBs.take {E : List Addr} {H : Hp} : ∀ {vs : List V} {ds : List Od} (n : Nat), OBs E H vs ds → OBs E H (vs.take n) (ds.take n)
  | _, _, 0, _ => .nil
  | _, _, _ + 1, .nil => .nil
  | _, _, n + 1, .cons h t => .cons h (OBs.take n t)
theorem OBs.drop {E : List Addr} {H : Hp} : ∀ {vs : List V} {ds : List Od} (n : Nat), OBs E H vs ds → OBs E H (vs.drop n) (ds.drop n)
  | _, _, 0, h => h
  | _, _, _ + 1, .nil => .nil
  | _, _, n + 1, .cons _ t => OBs.drop n t
theorem OBs.length {E : List Addr} {H : Hp} : ∀ {vs : List V} {ds : List Od}, OBs E H vs ds → vs.length = ds.length
  | _, _, .nil => rfl
  | _, _, .cons _ t => by rw [List.length_cons, List.length_cons, OBs.length t]
theorem OBs.get {E : List Addr} {H : Hp} : ∀ {vs : List V} {ds : List Od} {i : Nat} {v : V}, OBs E H vs ds → vs[i]? = some v → ∃ d, ds[i]? = some d ∧ OB E H v d
  | _, _, 0, _, .cons h _, e => by cases e; exact ⟨_, rfl, h⟩
  | _, _, i + 1, _, .cons (vs := vs) (ds := ds) _ t, e => by
    rw [List.getElem?_cons_succ] at e
    obtain ⟨d, h1, h2⟩ := OBs.get t e
    exact ⟨d, by rw [List.getElem?_cons_succ]; exact h1, h2⟩
theorem new_nin2 {H : Hp} {p a : Addr} {o : HO} (k : H p = none) (h : H a = some o) : p ∉ [a] := fun m => by
  have e : p = a := by simpa using m
  rw [← e, k] at h
  cases h
theorem tup_nin {H : Hp} {p a : Addr} {xs ys : List V} (h : H a = some (.lst xs)) (h2 : H p = some (.tup ys)) : p ∉ [a] := fun m => by
  have e : p = a := by simpa using m
  rw [e, h] at h2
  cases h2
theorem cut3_to (cs : List V) {n : Nat} (h : n < 4) (hl : cs.length = 3) : cutV cs none (some (n : Int)) = cs.take n := by
  match cs, hl with
  | [a, b, c], _ =>
    match n, h with
    | 0, _ => rfl
    | 1, _ => rfl
    | 2, _ => rfl
    | 3, _ => rfl
theorem cut3_from (cs : List V) {n : Nat} (h : n < 4) (hl : cs.length = 3) : cutV cs (some (n : Int)) none = cs.drop n := by
  match cs, hl with
  | [a, b, c], _ =>
    match n, h with
    | 0, _ => rfl
    | 1, _ => rfl
    | 2, _ => rfl
    | 3, _ => rfl
/-- pairs lie beside a list -/
theorem tup_all {H H' : Hp} {a : Addr} {ys : List V} (f : Fr [] H H') (g : H a = some (.lst ys)) : ∀ {vs : List V} {cs : List (Int × Int)}, OAll H vs (cs.map pairOd) → OBs [a] H' vs (cs.map pairOd)
  | _, [], .nil => .nil
  | _, c :: cs, .cons h t => by
    refine .cons ?_ (tup_all f g t)
    cases h with
    | tup ha t2 =>
      cases t2 with
      | cons h1 t2 =>
        cases t2 with
        | cons h2 t2 =>
          cases t2
          cases h1
          cases h2
          exact .tup (tup_nin g ha) (f _ _ nin ha) (.cons (.int _) (.cons (.int _) .nil))
def cods : List Od := [pairOd (-4, 1), pairOd (0, 3), pairOd (10 ^ 26, 10 ^ 28)]
theorem OAll.at0 {H : Hp} {v : V} {vs : List V} {d : Od} {ds : List Od} (h : OAll H (v :: vs) (d :: ds)) : OAt H v d := by
  cases h with
  | cons h _ => exact h
def odds1 : List Od := [.non, .int 3, .bl true, .str "", .lst [], .dic, .tup [], .tup [.int 1], .lst [.int 1, .lst []], .tup [.int 1, .lst [], .lst []], .tup [.bl true, .lst []], .tup [.str "1", .lst []], .tup [.int 1, .tup []], .tup [.int 1, .non]]
def odds2 : List Od := [.tup [.non, .lst cods], .tup [.int 1, .tup cods], .tup [.int 1, .lst cods.reverse], .tup [.int 1, .lst [pairOd (-4, 1), pairOd (-4, 1)]]]
def badds : List Od := [.non, .int 3, .tup [], .tup [.int 1], .tup [.int 11, .int 1, .int 1], .lst [.int 11, .int 1], .tup [.int 11, .int 0], .tup [.int 11, .int (-1)], .tup [.bl true, .int 1], .tup [.int 11, .bl true], .tup [.str "a", .int 1], .tup [.int 11, .non]]
def odds3 (s : Nat) : List Od := badds.map fun b => .tup [.int 1, .lst (cods.take s ++ [b] ++ cods.drop s)]
def odds4 : Od := .tup [.int 1, .lst (((List.range 13).map fun (i : Nat) => ((0 + (i : Int) : Int), (1 : Int))).map pairOd)]
def goods : List Od := [.tup [.int 1, .lst cods], .tup [.int 0, .lst []], .tup [.int (-10 ^ Int.toNat 29), .lst [pairOd (0, 1)]], .tup [.int 1, .lst (((List.range 12).map fun (i : Nat) => ((0 + (i : Int) : Int), (1 : Int))).map pairOd)]]
theorem goods_are : goods.all (fun d => d.price && d.lim) = true := by decide +kernel
theorem odds_no (s : Nat) (h : s < 4) : (odds1 ++ odds2 ++ odds3 s ++ [odds4]).all (fun d => !d.price && d.lim) = true := by
  match s, h with
  | 0, _ => decide +kernel
  | 1, _ => decide +kernel
  | 2, _ => decide +kernel
  | 3, _ => decide +kernel
section
variable {P : Program} {w : World} {K : PySem.W.Frag} {mg : Str → Option Value} {base : Heap}
theorem kb_is_price_thing : KwOk "is_price" "is_price" s_is_price ["thing"] ["thing"] 0 catA := fun _ _ _ _ _ _ us ws h1 h2 => match us, ws, h1, h2 with
  | [], [_], _, _ => rfl
theorem kr_is_price_thing {vs : List V} {us : List Value} {zs : List V} {ws : List Value} (h1 : Vals vs us) (h2 : Vals zs ws) (h3 : zs.length = ["thing"].length) (h4 : vs.length = 0) : Vals (catA vs zs) (catA us ws) := kr_cat0 h1 h2 h3 h4
def sp__law_odd_right (K : PySem.W.Frag) : Sp := fun vs H Q _ => ∃ (j : Addr) (m : Nat), vs = [.ref j] ∧ JarAt H j (m + 10) ∧ ∀ H', Fr [j] H H' → JarAt H' j m → Q (.bl true) H'
theorem k__law_odd_right (T : Tx fa fn K mg base) : FkG P w K mg base "_law_odd_right" ["jar"] 4 (sp__law_odd_right K) s__law_odd_right "_law_odd_right" := by
  refine T.fkG 14 30 (q := "_law_odd_right") (st := s__law_odd_right) sc__law_odd_right (fun _ _ _ _ _ _ us hl => match us, hl with | [_], _ => rfl) (fun vs H Q E h => ?_) (fun cdv A outer s H vs Q E gd hr h => ?_)
  · obtain ⟨j, m, rfl, _⟩ := h
    rfl
  · obtain ⟨j, m, rfl, hj, k⟩ := h
    refine ⟨_, (pss_cons (ps_set (i := 1) sc__law_odd_right.nd rfl (by first | exact Or.inl rfl | exact Or.inr rfl) (pe_lst (pa_cons (pe_tup (pa_cons (pe_un un_neg pe_int) (pa_cons pe_int pa_nil))) (pa_cons (pe_tup (pa_cons pe_int (pa_cons pe_int pa_nil))) (pa_cons (pe_tup (pa_cons (pe_op op_powW pe_int pe_int) (pa_cons (pe_op op_powW pe_int pe_int) pa_nil))) pa_nil)))))
      (pss_cons (ps_set (i := 2) sc__law_odd_right.nd rfl (by first | exact Or.inl rfl | exact Or.inr rfl) (pe_f (k__law_dip T) hr (pa_cons (pv 0) (pa_cons pe_int pa_nil))))
      (pss_cons (ps_set (i := 3) sc__law_odd_right.nd rfl (by first | exact Or.inl rfl | exact Or.inr rfl) (pe_lst (pa_cons pe_non (pa_cons pe_int (pa_cons pe_bl (pa_cons pe_str (pa_cons (pe_lst pa_nil) (pa_cons pe_dnewK (pa_cons (pe_tup pa_nil) (pa_cons (pe_tup (pa_cons pe_int pa_nil)) (pa_cons (pe_lst (pa_cons pe_int (pa_cons (pe_lst pa_nil) pa_nil))) (pa_cons (pe_tup (pa_cons pe_int (pa_cons (pe_lst pa_nil) (pa_cons (pe_lst pa_nil) pa_nil)))) (pa_cons (pe_tup (pa_cons pe_bl (pa_cons (pe_lst pa_nil) pa_nil))) (pa_cons (pe_tup (pa_cons pe_str (pa_cons (pe_lst pa_nil) pa_nil))) (pa_cons (pe_tup (pa_cons pe_int (pa_cons (pe_tup pa_nil) pa_nil))) (pa_cons (pe_tup (pa_cons pe_int (pa_cons pe_non pa_nil))) pa_nil))))))))))))))))
      (pss_cons (ps_set (i := 3) sc__law_odd_right.nd rfl (by first | exact Or.inl rfl | exact Or.inr rfl) (pe_op op_cat (pv 3) (pe_lst (pa_cons (pe_tup (pa_cons pe_non (pa_cons (pv 1) pa_nil))) (pa_cons (pe_tup (pa_cons pe_int (pa_cons (pe_callTy call_tuple_of (by rfl) (T.fr 9) (by decide +kernel) (pa_cons (pv 1) pa_nil)) pa_nil))) (pa_cons (pe_tup (pa_cons pe_int (pa_cons (pe_revL (pv 1)) pa_nil))) (pa_cons (pe_tup (pa_cons pe_int (pa_cons (pe_op op_rep (pe_slice sl_list (pv 1) po_none (po_some pe_int)) pe_int) pa_nil))) pa_nil)))))))
      (pss_cons (ps_set (i := 4) sc__law_odd_right.nd rfl (by first | exact Or.inl rfl | exact Or.inr rfl) (pe_lst (pa_cons pe_non (pa_cons pe_int (pa_cons (pe_tup pa_nil) (pa_cons (pe_tup (pa_cons pe_int pa_nil)) (pa_cons (pe_tup (pa_cons pe_int (pa_cons pe_int (pa_cons pe_int pa_nil)))) (pa_cons (pe_lst (pa_cons pe_int (pa_cons pe_int pa_nil))) (pa_cons (pe_tup (pa_cons pe_int (pa_cons pe_int pa_nil))) (pa_cons (pe_tup (pa_cons pe_int (pa_cons (pe_un un_neg pe_int) pa_nil))) (pa_cons (pe_tup (pa_cons pe_bl (pa_cons pe_int pa_nil))) (pa_cons (pe_tup (pa_cons pe_int (pa_cons pe_bl pa_nil))) (pa_cons (pe_tup (pa_cons pe_str (pa_cons pe_int pa_nil))) (pa_cons (pe_tup (pa_cons pe_int (pa_cons pe_non pa_nil))) pa_nil))))))))))))))
      (pss_cons (ps_for PassesOwn.never rfl (pi_list (pv 4)) (pg_name (i := 5) sc__law_odd_right.nd rfl (by first | exact Or.inl rfl | exact Or.inr rfl)) (pss_one (ps_expr (pe_bm PySem.F.plainAttrs_list PySem.F.slot_list_append PySem.F.type_list_append mt_append (pv 3) (pa_cons (pe_tup (pa_cons pe_int (pa_cons (pe_op op_cat (pe_op op_cat (pe_slice sl_list (pv 1) po_none (po_some (pv 2))) (pe_lst (pa_cons (pv 5) pa_nil))) (pe_slice sl_list (pv 1) (po_some (pv 2)) po_none)) pa_nil))) pa_nil)))))
      (pss_cons (ps_expr (pe_bm PySem.F.plainAttrs_list PySem.F.slot_list_append PySem.F.type_list_append mt_append (pv 3) (pa_cons (pe_tup (pa_cons pe_int (pa_cons (pe_lc (own := [("one", 7)]) (tt := tYes) (te := (tTup (tCons (tVar 7) (tCons (tC (.int 1)) tNil)))) rfl sc__law_odd_right.nd (pi_range1 (by rfl) (T.fr 24) (pa_cons pe_int pa_nil)) (blkOk_by (N := ["jar", "corners_here", "spot", "odd", "bads", "bad", "good", "one", "thing_here"]) (sc := defScope s__law_odd_right) (by decide +kernel)) (fun _ _ _ _ _ => (pg_name (i := 7) sc__law_odd_right.nd rfl (by first | exact Or.inl rfl | exact Or.inr rfl))) (fun _ _ _ _ _ => pts_nil) (fun _ _ _ _ _ => (pe_tup (pa_cons (pv 7) (pa_cons pe_int pa_nil))))) pa_nil))) pa_nil)))
      (pss_cons (ps_if (pt_cmpR (op_neD hr.units) (pe_lc (own := [("thing_here", 8)]) (tt := (tB (tCall (sp_is_price K) [] E0 (tCons (tVar 8) tNil)))) (te := (tVar 8)) rfl sc__law_odd_right.nd (pi_list (pv 3)) (blkOk_by (N := ["jar", "corners_here", "spot", "odd", "bads", "bad", "good", "one", "thing_here"]) (sc := defScope s__law_odd_right) (by decide +kernel)) (fun _ _ _ _ _ => (pg_name (i := 8) sc__law_odd_right.nd rfl (by first | exact Or.inl rfl | exact Or.inr rfl))) (fun _ _ _ _ _ => (pts_one (pt_val (pe_f (k_is_price T) hr (pa_cons (pv 8) pa_nil))))) (fun _ _ _ _ _ => (pv 8))) (pe_lst pa_nil) (nomark _)) (pss_one (ps_ret pe_bl)) pss_nil)
      (pss_cons (ps_set (i := 6) sc__law_odd_right.nd rfl (by first | exact Or.inl rfl | exact Or.inr rfl) (pe_lst (pa_cons (pe_tup (pa_cons pe_int (pa_cons (pv 1) pa_nil))) (pa_cons (pe_tup (pa_cons pe_int (pa_cons (pe_lst pa_nil) pa_nil))) (pa_cons (pe_tup (pa_cons (pe_un un_neg (pe_op op_powW pe_int pe_int)) (pa_cons (pe_lst (pa_cons (pe_tup (pa_cons pe_int (pa_cons pe_int pa_nil))) pa_nil)) pa_nil))) (pa_cons (pe_tup (pa_cons pe_int (pa_cons (pe_lc (own := [("one", 7)]) (tt := tYes) (te := (tTup (tCons (tVar 7) (tCons (tC (.int 1)) tNil)))) rfl sc__law_odd_right.nd (pi_range1 (by rfl) (T.fr 24) (pa_cons pe_int pa_nil)) (blkOk_by (N := ["jar", "corners_here", "spot", "odd", "bads", "bad", "good", "one", "thing_here"]) (sc := defScope s__law_odd_right) (by decide +kernel)) (fun _ _ _ _ _ => (pg_name (i := 7) sc__law_odd_right.nd rfl (by first | exact Or.inl rfl | exact Or.inr rfl))) (fun _ _ _ _ _ => pts_nil) (fun _ _ _ _ _ => (pe_tup (pa_cons (pv 7) (pa_cons pe_int pa_nil))))) pa_nil))) pa_nil))))))
      (pss_one (ps_ret (pe_cmpR op_eq (pe_callB (cr_repr gd hr.units) (by rfl) (T.fr 28) (by decide +kernel) (pa_cons (pe_lc (own := [("thing_here", 8)]) (tt := tYes) (te := (tCallKw 1 (sp_is_price K) revA (tCons (tVar 8) tNil))) rfl sc__law_odd_right.nd (pi_list (pv 6)) (blkOk_by (N := ["jar", "corners_here", "spot", "odd", "bads", "bad", "good", "one", "thing_here"]) (sc := defScope s__law_odd_right) (by decide +kernel)) (fun _ _ _ _ _ => (pg_name (i := 8) sc__law_odd_right.nd rfl (by first | exact Or.inl rfl | exact Or.inr rfl))) (fun _ _ _ _ _ => pts_nil) (fun _ _ _ _ _ => (pe_fK (k_is_price T) hr (kb_is_price_thing) (kr_is_price_thing) (pk_cons (pv 8) pk_nil)))) pa_nil)) (pe_callB (cr_repr gd hr.units) (by rfl) (T.fr 28) (by decide +kernel) (pa_cons (pe_op op_rep (pe_lst (pa_cons pe_bl pa_nil)) pe_int) pa_nil)) (nomark _))))))))))))), ?_⟩
    walk_at "ev0"
    have z0 := ZJ.start hj
    intro t1 k_t1
    have z1 := z0.alloc (.tup [.int (-4), .int 1]) k_t1
    walk_at "ev"
    intro t2 k_t2
    have z2 := z1.alloc (.tup [.int 0, .int 3]) k_t2
    walk_at "ev"
    intro t3 k_t3
    have z3 := z2.alloc (.tup [.int (10 ^ Int.toNat 26), .int (10 ^ Int.toNat 28)]) k_t3
    walk_at "ev"
    intro L k_L
    have z4 := z3.alloc (.lst [.ref t1, .ref t2, .ref t3]) k_L
    walk_at "ev"
    refine ⟨j, 4, m + 9, rfl, z4.jar.le (by omega), by decide, by decide, fun sv H5 s0 s1 f5 q5 => ?_⟩
    have z5 := z4.dips f5 q5
    have hL := z5.get (.head _)
    have hco : OAll H5 [.ref t1, .ref t2, .ref t3] cods := .cons (.tup (z5.get (.tail _ (.tail _ (.tail _ (.head _))))) (.cons (.int _) (.cons (.int _) .nil))) (.cons (.tup (z5.get (.tail _ (.tail _ (.head _)))) (.cons (.int _) (.cons (.int _) .nil))) (.cons (.tup (z5.get (.tail _ (.head _))) (.cons (.int _) (.cons (.int _) .nil))) .nil))
    have fr0 := z5.fr
    have y0 := Z.start0 H5
    walk_at "ev"
    intro a1 k_a1
    have y1 := y0.alloc (.lst []) k_a1
    walk_at "ev"
    intro a2 k_a2
    have y2 := y1.alloc (.dK []) k_a2
    walk_at "ev"
    intro a3 k_a3
    have y3 := y2.alloc (.tup []) k_a3
    walk_at "ev"
    intro a4 k_a4
    have y4 := y3.alloc (.tup [.int 1]) k_a4
    walk_at "ev"
    intro a5 k_a5
    have y5 := y4.alloc (.lst []) k_a5
    walk_at "ev"
    intro a6 k_a6
    have y6 := y5.alloc (.lst [.int 1, .ref a5]) k_a6
    walk_at "ev"
    intro a7 k_a7
    have y7 := y6.alloc (.lst []) k_a7
    walk_at "ev"
    intro a8 k_a8
    have y8 := y7.alloc (.lst []) k_a8
    walk_at "ev"
    intro a9 k_a9
    have y9 := y8.alloc (.tup [.int 1, .ref a7, .ref a8]) k_a9
    walk_at "ev"
    intro a10 k_a10
    have y10 := y9.alloc (.lst []) k_a10
    walk_at "ev"
    intro a11 k_a11
    have y11 := y10.alloc (.tup [.bl true, .ref a10]) k_a11
    walk_at "ev"
    intro a12 k_a12
    have y12 := y11.alloc (.lst []) k_a12
    walk_at "ev"
    intro a13 k_a13
    have y13 := y12.alloc (.tup [.str "1", .ref a12]) k_a13
    walk_at "ev"
    intro a14 k_a14
    have y14 := y13.alloc (.tup []) k_a14
    walk_at "ev"
    intro a15 k_a15
    have y15 := y14.alloc (.tup [.int 1, .ref a14]) k_a15
    walk_at "ev"
    intro a16 k_a16
    have y16 := y15.alloc (.tup [.int 1, .non]) k_a16
    walk_at "ev"
    intro a17 k_a17
    have y17 := y16.alloc (.lst [.non, .int 3, .bl true, .str "", .ref a1, .ref a2, .ref a3, .ref a4, .ref a6, .ref a9, .ref a11, .ref a13, .ref a15, .ref a16]) k_a17
    walk_at "ev"
    have ho1 := show OAll _ [.non, .int 3, .bl true, .str "", .ref a1, .ref a2, .ref a3, .ref a4, .ref a6, .ref a9, .ref a11, .ref a13, .ref a15, .ref a16] odds1 from (.cons .non (.cons (.int 3) (.cons (.bl true) (.cons (.str "") (.cons (.lst (y17.get (.tail _ (.tail _ (.tail _ (.tail _ (.tail _ (.tail _ (.tail _ (.tail _ (.tail _ (.tail _ (.tail _ (.tail _ (.tail _ (.tail _ (.tail _ (.tail _ (.head _)))))))))))))))))) .nil) (.cons (.dic (y17.get (.tail _ (.tail _ (.tail _ (.tail _ (.tail _ (.tail _ (.tail _ (.tail _ (.tail _ (.tail _ (.tail _ (.tail _ (.tail _ (.tail _ (.tail _ (.head _)))))))))))))))))) (.cons (.tup (y17.get (.tail _ (.tail _ (.tail _ (.tail _ (.tail _ (.tail _ (.tail _ (.tail _ (.tail _ (.tail _ (.tail _ (.tail _ (.tail _ (.tail _ (.head _)))))))))))))))) .nil) (.cons (.tup (y17.get (.tail _ (.tail _ (.tail _ (.tail _ (.tail _ (.tail _ (.tail _ (.tail _ (.tail _ (.tail _ (.tail _ (.tail _ (.tail _ (.head _))))))))))))))) (.cons (.int 1) .nil)) (.cons (.lst (y17.get (.tail _ (.tail _ (.tail _ (.tail _ (.tail _ (.tail _ (.tail _ (.tail _ (.tail _ (.tail _ (.tail _ (.head _))))))))))))) (.cons (.int 1) (.cons (.lst (y17.get (.tail _ (.tail _ (.tail _ (.tail _ (.tail _ (.tail _ (.tail _ (.tail _ (.tail _ (.tail _ (.tail _ (.tail _ (.head _)))))))))))))) .nil) .nil))) (.cons (.tup (y17.get (.tail _ (.tail _ (.tail _ (.tail _ (.tail _ (.tail _ (.tail _ (.tail _ (.head _)))))))))) (.cons (.int 1) (.cons (.lst (y17.get (.tail _ (.tail _ (.tail _ (.tail _ (.tail _ (.tail _ (.tail _ (.tail _ (.tail _ (.tail _ (.head _)))))))))))) .nil) (.cons (.lst (y17.get (.tail _ (.tail _ (.tail _ (.tail _ (.tail _ (.tail _ (.tail _ (.tail _ (.tail _ (.head _))))))))))) .nil) .nil)))) (.cons (.tup (y17.get (.tail _ (.tail _ (.tail _ (.tail _ (.tail _ (.tail _ (.head _)))))))) (.cons (.bl true) (.cons (.lst (y17.get (.tail _ (.tail _ (.tail _ (.tail _ (.tail _ (.tail _ (.tail _ (.head _))))))))) .nil) .nil))) (.cons (.tup (y17.get (.tail _ (.tail _ (.tail _ (.tail _ (.head _)))))) (.cons (.str "1") (.cons (.lst (y17.get (.tail _ (.tail _ (.tail _ (.tail _ (.tail _ (.head _))))))) .nil) .nil))) (.cons (.tup (y17.get (.tail _ (.tail _ (.head _)))) (.cons (.int 1) (.cons (.tup (y17.get (.tail _ (.tail _ (.tail _ (.head _))))) .nil) .nil))) (.cons (.tup (y17.get (.tail _ (.head _))) (.cons (.int 1) (.cons .non .nil))) .nil))))))))))))))
    have g17 := (y17.get (.head _))
    have e1 := y17.fr0 (by simp)
    have hco1 := hco.mono e1
    have hL1 := e1 _ _ nin hL
    clear y0 y1 y2 y3 y4 y5 y6 y7 y8 y9 y10 y11 y12 y13 y14 y15 y16 y17 k_a1 k_a2 k_a3 k_a4 k_a5 k_a6 k_a7 k_a8 k_a9 k_a10 k_a11 k_a12 k_a13 k_a14 k_a15 k_a16 k_a17
    generalize hH6 : upd _ a17 _ = H6 at ho1 g17 e1 hco1 hL1 ⊢
    clear hH6
    have x0 := Z.start0 H6
    walk_at "ev"
    intro b1 k_b1
    have x1 := x0.alloc (.tup [.non, .ref L]) k_b1
    walk_at "ev"
    refine ⟨L, _, rfl, .inl ⟨SqL.of (x1.keep hL1 (by simp)), fun b2 k_b2 => ?_⟩⟩
    have x2 := x1.alloc (.tup [.ref t1, .ref t2, .ref t3]) k_b2
    walk_at "ev"
    intro b3 k_b3
    have x3 := x2.alloc (.tup [.int 1, .ref b2]) k_b3
    have hLx := x3.keep hL1 (by simp)
    walk_at "ev"
    rw [show [V.ref t1, .ref t2, .ref t3].reverse = [.ref t3, .ref t2, .ref t1] from rfl]
    intro b4 k_b4
    have x4 := x3.alloc (.lst [.ref t3, .ref t2, .ref t1]) k_b4
    walk_at "ev"
    intro b5 k_b5
    have x5 := x4.alloc (.tup [.int 1, .ref b4]) k_b5
    have hLx := x5.keep hL1 (by simp)
    walk_at "ev"
    rw [show cutV [V.ref t1, .ref t2, .ref t3] none (some 1) = [.ref t1] from rfl]
    intro b6 k_b6
    have x6 := x5.alloc (.lst [.ref t1]) k_b6
    walk_at "ev"
    refine ⟨b6, 2, [.ref t1], rfl, rfl, x6.get (.head _), by decide, by decide, Nat.le_of_ble_eq_true rfl, fun b7 k_b7 => ?_⟩
    rw [show (List.replicate (Int.toNat 2) [V.ref t1]).flatten = [.ref t1, .ref t1] from rfl]
    have x7 := x6.alloc (.lst [.ref t1, .ref t1]) k_b7
    walk_at "ev"
    intro b8 k_b8
    have x8 := x7.alloc (.tup [.int 1, .ref b7]) k_b8
    walk_at "ev"
    intro b9 k_b9
    have x9 := x8.alloc (.lst [.ref b1, .ref b3, .ref b5, .ref b8]) k_b9
    have g17x := x9.keep g17 (by simp)
    walk_at "ev"
    have e2 := x9.fr0 (by simp)
    have ho1x := ho1.mono e2
    have hco2 := hco1.mono e2
    have hL2 := e2 _ _ nin hL1
    have ho2 : OAll _ [.ref b1, .ref b3, .ref b5, .ref b8] odds2 := .cons (.tup (x9.get (.tail _ (.tail _ (.tail _ (.tail _ (.tail _ (.tail _ (.tail _ (.tail _ (.head _)))))))))) (.cons .non (.cons (.lst hL2 hco2) .nil))) (.cons (.tup (x9.get (.tail _ (.tail _ (.tail _ (.tail _ (.tail _ (.tail _ (.head _)))))))) (.cons (.int 1) (.cons (.tup (x9.get (.tail _ (.tail _ (.tail _ (.tail _ (.tail _ (.tail _ (.tail _ (.head _))))))))) hco2) .nil))) (.cons (.tup (x9.get (.tail _ (.tail _ (.tail _ (.tail _ (.head _)))))) (.cons (.int 1) (.cons (.lst (x9.get (.tail _ (.tail _ (.tail _ (.tail _ (.tail _ (.head _))))))) hco2.reverse) .nil))) (.cons (.tup (x9.get (.tail _ (.head _))) (.cons (.int 1) (.cons (.lst (x9.get (.tail _ (.tail _ (.head _)))) (.cons (hco2.at0) (.cons (hco2.at0) .nil))) .nil))) .nil)))
    have ho12 := ho1x.append ho2
    clear x0 x1 x2 x3 x4 x5 x6 x7 x8 x9 k_b1 k_b2 k_b3 k_b4 k_b5 k_b6 k_b7 k_b8 k_b9 hLx g17x ho2 ho1x
    generalize upd _ b9 _ = H7 at ho12 e2 hco2 hL2 ⊢
    generalize hov : ([V.non, .int 3, .bl true, .str "", .ref a1, .ref a2, .ref a3, .ref a4, .ref a6, .ref a9, .ref a11, .ref a13, .ref a15, .ref a16] ++ [V.ref b1, .ref b3, .ref b5, .ref b8]) = ov at ho12 ⊢
    clear hov
    intro od k_od
    have hLn := new_nin k_od hL2
    have hob := ho12.ob k_od
    have hcb := hco2.ob k_od
    have x1 := (Z.start0 H7).alloc (.lst ov) k_od
    walk_at "ev"
    intro c1 k_c1
    have x2 := x1.alloc (.tup []) k_c1
    walk_at "ev"
    intro c2 k_c2
    have x3 := x2.alloc (.tup [.int 1]) k_c2
    walk_at "ev"
    intro c3 k_c3
    have x4 := x3.alloc (.tup [.int 11, .int 1, .int 1]) k_c3
    walk_at "ev"
    intro c4 k_c4
    have n4 := new_nin2 k_c4 (x4.get (.tail _ (.tail _ (.tail _ (.head _)))))
    have x5 := x4.alloc (.lst [.int 11, .int 1]) k_c4
    walk_at "ev"
    intro c5 k_c5
    have x6 := x5.alloc (.tup [.int 11, .int 0]) k_c5
    walk_at "ev"
    intro c6 k_c6
    have x7 := x6.alloc (.tup [.int 11, .int (-1)]) k_c6
    walk_at "ev"
    intro c7 k_c7
    have x8 := x7.alloc (.tup [.bl true, .int 1]) k_c7
    walk_at "ev"
    intro c8 k_c8
    have x9 := x8.alloc (.tup [.int 11, .bl true]) k_c8
    walk_at "ev"
    intro c9 k_c9
    have x10 := x9.alloc (.tup [.str "a", .int 1]) k_c9
    walk_at "ev"
    intro c10 k_c10
    have x11 := x10.alloc (.tup [.int 11, .non]) k_c10
    walk_at "ev"
    intro c11 k_c11
    have n11 := new_nin2 k_c11 (x11.get (.tail _ (.tail _ (.tail _ (.tail _ (.tail _ (.tail _ (.tail _ (.tail _ (.tail _ (.tail _ (.head _))))))))))))
    have x12 := x11.alloc (.lst [.non, .int 3, .ref c1, .ref c2, .ref c3, .ref c4, .ref c5, .ref c6, .ref c7, .ref c8, .ref c9, .ref c10]) k_c11
    walk_at "ev"
    have god := (x12.get (.tail _ (.tail _ (.tail _ (.tail _ (.tail _ (.tail _ (.tail _ (.tail _ (.tail _ (.tail _ (.tail _ (.head _)))))))))))))
    have g11 := (x12.get (.head _))
    have hbad : OBs [od] _ [.non, .int 3, .ref c1, .ref c2, .ref c3, .ref c4, .ref c5, .ref c6, .ref c7, .ref c8, .ref c9, .ref c10] badds := (.cons .non (.cons (.int 3) (.cons (.tup (tup_nin god (x12.get (.tail _ (.tail _ (.tail _ (.tail _ (.tail _ (.tail _ (.tail _ (.tail _ (.tail _ (.tail _ (.head _))))))))))))) (x12.get (.tail _ (.tail _ (.tail _ (.tail _ (.tail _ (.tail _ (.tail _ (.tail _ (.tail _ (.tail _ (.head _)))))))))))) .nil) (.cons (.tup (tup_nin god (x12.get (.tail _ (.tail _ (.tail _ (.tail _ (.tail _ (.tail _ (.tail _ (.tail _ (.tail _ (.head _)))))))))))) (x12.get (.tail _ (.tail _ (.tail _ (.tail _ (.tail _ (.tail _ (.tail _ (.tail _ (.tail _ (.head _))))))))))) (.cons (.int 1) .nil)) (.cons (.tup (tup_nin god (x12.get (.tail _ (.tail _ (.tail _ (.tail _ (.tail _ (.tail _ (.tail _ (.tail _ (.head _))))))))))) (x12.get (.tail _ (.tail _ (.tail _ (.tail _ (.tail _ (.tail _ (.tail _ (.tail _ (.head _)))))))))) (.cons (.int 11) (.cons (.int 1) (.cons (.int 1) .nil)))) (.cons (.lst n4 (x12.get (.tail _ (.tail _ (.tail _ (.tail _ (.tail _ (.tail _ (.tail _ (.head _))))))))) (.cons (.int 11) (.cons (.int 1) .nil))) (.cons (.tup (tup_nin god (x12.get (.tail _ (.tail _ (.tail _ (.tail _ (.tail _ (.tail _ (.head _))))))))) (x12.get (.tail _ (.tail _ (.tail _ (.tail _ (.tail _ (.tail _ (.head _)))))))) (.cons (.int 11) (.cons (.int 0) .nil))) (.cons (.tup (tup_nin god (x12.get (.tail _ (.tail _ (.tail _ (.tail _ (.tail _ (.head _)))))))) (x12.get (.tail _ (.tail _ (.tail _ (.tail _ (.tail _ (.head _))))))) (.cons (.int 11) (.cons (.int (-1)) .nil))) (.cons (.tup (tup_nin god (x12.get (.tail _ (.tail _ (.tail _ (.tail _ (.head _))))))) (x12.get (.tail _ (.tail _ (.tail _ (.tail _ (.head _)))))) (.cons (.bl true) (.cons (.int 1) .nil))) (.cons (.tup (tup_nin god (x12.get (.tail _ (.tail _ (.tail _ (.head _)))))) (x12.get (.tail _ (.tail _ (.tail _ (.head _))))) (.cons (.int 11) (.cons (.bl true) .nil))) (.cons (.tup (tup_nin god (x12.get (.tail _ (.tail _ (.head _))))) (x12.get (.tail _ (.tail _ (.head _)))) (.cons (.str "a") (.cons (.int 1) .nil))) (.cons (.tup (tup_nin god (x12.get (.tail _ (.head _)))) (x12.get (.tail _ (.head _))) (.cons (.int 11) (.cons .non .nil))) .nil))))))))))))
    have e3 := x12.fr0 (by simp)
    have hob3 := hob.mono e3.up0
    have hcb3 := hcb.mono e3.up0
    have hL3 := e3 _ _ nin hL2
    clear x1 x2 x3 x4 x5 x6 x7 x8 x9 x10 x11 x12 k_c1 k_c2 k_c3 k_c4 k_c5 k_c6 k_c7 k_c8 k_c9 k_c10 k_c11
    generalize hbv : [V.non, .int 3, .ref c1, .ref c2, .ref c3, .ref c4, .ref c5, .ref c6, .ref c7, .ref c8, .ref c9, .ref c10] = bv at god g11 hbad hob3 hcb3 hL3 e3 ⊢
    clear hbv
    generalize upd _ c11 _ = H8 at god g11 hbad hob3 hcb3 hL3 e3 ⊢
    have lb : bv.length = 12 := hbad.length
    have lo : ov.length = 18 := hob3.length
    obtain ⟨sn, rfl⟩ := Int.eq_ofNat_of_zero_le s0
    have hsn : sn < 4 := by omega
    refine for_it (walk_list (xs := bv)) (fun i σ H' => ∃ (u5 : Option V) (ov' : List V), σ = [some (.ref j), some (.ref L), some (.int (sn : Int)), some (.ref od), some (.ref c11), u5, none, none, none] ∧ H' od = some (.lst ov') ∧ OBs [od] H' ov' (odds1 ++ odds2 ++ (odds3 sn).take i) ∧ Fr [od] H8 H') ⟨none, ov, rfl, god, by rw [List.take_zero, List.append_nil]; exact hob3, Fr.refl _⟩ (fun i σ H' _ ⟨_, _, _, _, _, f⟩ => SqL.of (f _ _ n11 g11)) (fun i x σ H9 H9' hi pp y => ?_) (fun σ H9 pp => ?_)
    · obtain ⟨u5, ov', rfl, god9, hob9, f9⟩ := pp
      obtain ⟨rfl, hx⟩ := y
      obtain ⟨bd, ebd, hbd⟩ := (hbad.mono f9).get hx
      have hcb9 := hcb3.mono f9
      have hL9 := f9 _ _ hLn hL3
      have lov : ov'.length ≤ 30 := by
        rw [hob9.length, List.length_append, List.length_take]
        have : (odds1 ++ odds2).length = 18 := rfl
        have : (odds3 sn).length = 12 := List.length_map _
        omega
      walk_at "ev"
      rw [cut3_to _ hsn rfl]
      intro d1 k_d1
      have w1 := (Z.start0 H9').alloc (.lst ([V.ref t1, .ref t2, .ref t3].take sn)) k_d1
      walk_at "ev"
      intro d2 k_d2
      have w2 := w1.alloc (.lst [x]) k_d2
      walk_at "ev"
      intro d3 k_d3
      have w3 := w2.alloc (.lst ([V.ref t1, .ref t2, .ref t3].take sn ++ [x])) k_d3
      have hLw := w3.keep hL9 (by simp)
      walk_at "ev"
      rw [cut3_from _ hsn rfl]
      intro d4 k_d4
      have w4 := w3.alloc (.lst ([V.ref t1, .ref t2, .ref t3].drop sn)) k_d4
      walk_at "ev"
      intro d5 k_d5
      have w5 := w4.alloc (.lst ([V.ref t1, .ref t2, .ref t3].take sn ++ [x] ++ [V.ref t1, .ref t2, .ref t3].drop sn)) k_d5
      have n5 := new_nin2 k_d5 (w4.keep god9 (by simp))
      walk_at "ev"
      intro d6 k_d6
      have n6 := new_nin2 k_d6 (w5.keep god9 (by simp))
      have w6 := w5.alloc (.tup [.int 1, .ref d5]) k_d6
      have godw := w6.keep god9 (by simp)
      walk_at "ev"
      refine r_app godw (Nat.lt_of_lt_of_le (show ov'.length < 100001 by omega) (by decide)) ?_
      walk_at "ev"
      have frod : ∀ {H : Hp} {o : HO}, Fr [od] H (upd H od o) := fun {H o} a u hn e => by
        rw [upd_ne (fun z => hn (by rw [z]; exact .head _))]
        exact e
      have fw := (w6.fr0 (by simp)).up0.trans (frod (o := .lst (ov' ++ [.ref d6])))
      have new : OB [od] _ (.ref d6) (.tup [.int 1, .lst (cods.take sn ++ [bd] ++ cods.drop sn)]) := .tup n6 (frod (o := .lst (ov' ++ [.ref d6])) _ _ n6 (w6.get (.head _))) (.cons (.int 1) (.cons (.lst n5 (frod _ _ n5 (w6.get (.tail _ (.head _)))) (((hcb9.mono fw).take sn).append (.cons (hbd.mono fw) .nil) |>.append ((hcb9.mono fw).drop sn))) .nil))
      refine ⟨_, _, rfl, upd_same, ?_, f9.trans fw⟩
      have e4 : (odds3 sn).take (i + 1) = (odds3 sn).take i ++ [.tup [.int 1, .lst (cods.take sn ++ [bd] ++ cods.drop sn)]] := by
        unfold odds3
        rw [List.take_succ, List.getElem?_map, ebd]
        rfl
      rw [e4, ← List.append_assoc]
      exact (hob9.mono fw).append (.cons new .nil)
    · obtain ⟨u5, ov', rfl, god9, hob9, f9⟩ := pp
      walk_at "ev"
      have e5 : (odds3 sn).take bv.length = odds3 sn := by
        rw [lb]
        exact List.take_of_length_le (by rw [show (odds3 sn).length = 12 from List.length_map _]; exact Nat.le_refl _)
      rw [e5] at hob9
      have lov : ov'.length = 30 := by
        rw [hob9.length, List.length_append]
        have : (odds1 ++ odds2).length = 18 := rfl
        have : (odds3 sn).length = 12 := List.length_map _
        omega
      refine ⟨by decide, by decide, ?_⟩
      refine lc_pairs (walk_range (lo := 0) (n := 13)) (fun (i : Nat) => ((0 + (i : Int) : Int), (1 : Int))) (by decide) (fun _ _ => trivial) (fun i H' x H'' y => by rw [y.1]; exact Fr.refl _) (fun i z H' H'' R hi e y kR => ?_) (fun D H10 acc hD e10 hD' ho => ?_)
      · obtain ⟨rfl, rfl⟩ := y
        walk_at "ev"
        refine ⟨rfl, ?_⟩
        walk_at "ev"
        intro t9 k9
        exact kR _ _ ((Fr.refl _).new k9) upd_same
      · have god10 := e10 _ _ nin god9
        walk_at "ev"
        intro d6 k_d6
        have n6 := new_nin2 k_d6 god10
        have w6 := (Z.start0 H10).alloc (.tup [.int 1, .ref D]) k_d6
        have godw := w6.keep god10 (by simp)
        walk_at "ev"
        refine r_app godw (Nat.lt_of_lt_of_le (show ov'.length < 100001 by omega) (by decide)) ?_
        have frod : ∀ {H : Hp} {o : HO}, Fr [od] H (upd H od o) := fun {H o} a u hn e => by
          rw [upd_ne (fun z => hn (by rw [z]; exact .head _))]
          exact e
        have fw := (e10.up0.trans (w6.fr0 (by simp)).up0).trans (frod (o := .lst (ov' ++ [.ref d6])))
        have nD : D ∉ [od] := new_nin2 hD god9
        have hoB : OBs [od] (upd H10 d6 (.tup [.int 1, .ref D])) acc _ := tup_all (w6.fr0 (by simp)) god10 ho
        have new : OB [od] _ (.ref d6) odds4 := .tup n6 (frod (o := .lst (ov' ++ [.ref d6])) _ _ n6 (w6.get (.head _))) (.cons (.int 1) (.cons (.lst nD (frod _ _ nD (w6.keep hD' (by simp))) (hoB.mono frod)) .nil))
        have hall := (hob9.mono fw).append (.cons new .nil)
        have fall := f9.trans fw
        have gall : upd (upd H10 d6 (.tup [.int 1, .ref D])) od (.lst (ov' ++ [.ref d6])) od = some (.lst (ov' ++ [.ref d6])) := upd_same
        clear new fw w6 godw god10
        generalize upd (upd H10 d6 (.tup [.int 1, .ref D])) od (.lst (ov' ++ [.ref d6])) = HB at hall fall gall ⊢
        generalize hvv : ov' ++ [.ref d6] = vv at hall gall
        clear hvv
        walk_at "ev"
        generalize hod : odds1 ++ odds2 ++ odds3 sn ++ [odds4] = ods at hall
        have hno := odds_no sn hsn
        rw [hod] at hno
        have hlen : ods.length ≤ 40 := by
          rw [← hod]
          match sn, hsn with
          | 0, _ => decide +kernel
          | 1, _ => decide +kernel
          | 2, _ => decide +kernel
          | 3, _ => decide +kernel
        clear hod
        have hvl := hall.length
        have hat : ∀ (H' : Hp), Fr [] HB H' → ∀ (i : Nat) (x : V), vv[i]? = some x → ∃ d, d.price = false ∧ d.lim = true ∧ OAt H' x d := fun H' f i x hx => by
          obtain ⟨d, e1, e2⟩ := hall.get hx
          have hd := List.all_eq_true.mp hno d (List.mem_of_getElem? e1)
          rw [Bool.and_eq_true, Bool.not_eq_true'] at hd
          exact ⟨d, hd.1, hd.2, e2.o.mono f⟩
        refine lc_filt (walk_list (xs := vv)) (fun i => .int 0) (fun _ => false) (by omega) (fun H' e => SqL.of (e _ _ nin gall)) (fun i H' x H'' y => by rw [y.1]; exact Fr.refl _) (fun i z H' H'' R N hi e y kR kN => ?_) (fun D2 H11 hD2 e11 gD2 => ?_)
        · obtain ⟨rfl, hx⟩ := y
          obtain ⟨d, p1, p2, p3⟩ := hat _ e _ _ hx
          walk_at "ev"
          refine ⟨rfl, ?_⟩
          walk_at "ev"
          refine ⟨z, d, rfl, p3, p2, fun H12 f12 => ?_⟩
          rw [p1]
          walk_at "ev"
          exact kN rfl _ f12
        · have gD2 : H11 D2 = some (.lst []) := by
            rw [gD2]
            congr 2
            rw [show (List.range vv.length).filter (fun _ => false) = [] from List.filter_eq_nil_iff.mpr (fun _ _ => by decide)]
            rfl
          walk_at "ev"
          intro t2 k2
          have v1 := (Z.start0 H11).alloc (.lst []) k2
          walk_at "ev"
          refine r_neI (ns := []) (ms := []) (SqL.of (v1.keep gD2 (by simp))) (SqL.of (v1.get (.head _))) ?_
          rw [show decide (([] : List Int) = []) = true from rfl]
          walk_at "ev"
          have fB := e11.trans (v1.fr0 (by simp))
          have hLB := fB _ _ nin (fall _ _ hLn hL3)
          have hcB := ((hcb3.mono fall).o.mono fB)
          have fAll : Fr [od] H8 _ := fall.trans fB.up0
          clear v1 hat
          generalize upd H11 t2 (.lst []) = HC at hLB hcB fAll ⊢
          have u0 := Z.start0 HC
          intro g1 k_g1
          have u1 := u0.alloc (.tup [.int 1, .ref L]) k_g1
          walk_at "ev"
          intro g2 k_g2
          have u2 := u1.alloc (.lst []) k_g2
          walk_at "ev"
          intro g3 k_g3
          have u3 := u2.alloc (.tup [.int 0, .ref g2]) k_g3
          walk_at "ev"
          intro g4 k_g4
          have u4 := u3.alloc (.tup [.int 0, .int 1]) k_g4
          walk_at "ev"
          intro g5 k_g5
          have u5 := u4.alloc (.lst [.ref g4]) k_g5
          walk_at "ev"
          intro g6 k_g6
          have u6 := u5.alloc (.tup [.int (-10 ^ Int.toNat 29), .ref g5]) k_g6
          walk_at "ev"
          refine ⟨by decide, by decide, ?_⟩
          refine lc_pairs (walk_range (lo := 0) (n := 12)) (fun (i : Nat) => ((0 + (i : Int) : Int), (1 : Int))) (by decide) (fun _ _ => trivial) (fun i H' x H'' y => by rw [y.1]; exact Fr.refl _) (fun i z H' H'' R hi e y kR => ?_) (fun D7 HD acc7 hD7 e7 gD7 ho7 => ?_)
          · obtain ⟨rfl, rfl⟩ := y
            walk_at "ev"
            refine ⟨rfl, ?_⟩
            walk_at "ev"
            intro t9 k9
            exact kR _ _ ((Fr.refl _).new k9) upd_same
          have u7 := u6.comp e7 hD7 gD7
          walk_at "ev"
          intro g8 k_g8
          have fg8 : Fr [] HD (upd HD g8 (.tup [.int 1, .ref D7])) := (Fr.refl _).new k_g8
          have u8 := u7.alloc (.tup [.int 1, .ref D7]) k_g8
          walk_at "ev"
          intro g9 k_g9
          have fg9 := fg8.trans ((Fr.refl _).new (o := .lst [.ref g1, .ref g3, .ref g6, .ref g8]) k_g9)
          have u9 := u8.alloc (.lst [.ref g1, .ref g3, .ref g6, .ref g8]) k_g9
          have fC := u9.fr0 (by simp)
          have hgood : OAll _ [.ref g1, .ref g3, .ref g6, .ref g8] goods := .cons (.tup (u9.get (.tail _ (.tail _ (.tail _ (.tail _ (.tail _ (.tail _ (.tail _ (.tail _ (.head _)))))))))) (.cons (.int 1) (.cons (.lst (fC _ _ nin hLB) (hcB.mono fC)) .nil))) (.cons (.tup (u9.get (.tail _ (.tail _ (.tail _ (.tail _ (.tail _ (.tail _ (.head _)))))))) (.cons (.int 0) (.cons (.lst (u9.get (.tail _ (.tail _ (.tail _ (.tail _ (.tail _ (.tail _ (.tail _ (.head _))))))))) .nil) .nil))) (.cons (.tup (u9.get (.tail _ (.tail _ (.tail _ (.head _))))) (.cons (.int _) (.cons (.lst (u9.get (.tail _ (.tail _ (.tail _ (.tail _ (.head _)))))) (.cons (.tup (u9.get (.tail _ (.tail _ (.tail _ (.tail _ (.tail _ (.head _))))))) (.cons (.int 0) (.cons (.int 1) .nil))) .nil)) .nil))) (.cons (.tup (u9.get (.tail _ (.head _))) (.cons (.int 1) (.cons (.lst (u9.get (.tail _ (.tail _ (.head _)))) (ho7.mono fg9)) .nil))) .nil)))
          have g9' := u9.get (.head _)
          clear u0 u1 u2 u3 u4 u5 u6 u7 u8 u9
          generalize upd (upd HD g8 _) g9 _ = HE at hgood fC g9' ⊢
          walk_at "ev"
          refine lc_pure (walk_list (xs := [V.ref g1, .ref g3, .ref g6, .ref g8])) (fun _ => .bl true) (Nat.le_of_ble_eq_true rfl) (fun H' e => SqL.of (e _ _ nin g9')) (fun i H' x H'' y => by rw [y.1]; exact Fr.refl _) (fun i z H' H'' R hi e y kR => ?_) (fun D8 HF hD8 e8 gD8 => ?_)
          · obtain ⟨rfl, hx⟩ := y
            obtain ⟨d, p1, p2⟩ := (hgood.mono e).get hx
            have pd := List.all_eq_true.mp goods_are d (List.mem_of_getElem? p1)
            rw [Bool.and_eq_true] at pd
            walk_at "ev"
            refine ⟨rfl, ?_⟩
            walk_at "ev"
            refine ⟨rfl, z, d, rfl, p2, pd.2, fun H12 f12 => ?_⟩
            rw [pd.1]
            exact kR _ f12
          walk_at "ev"
          have gD8 : HF D8 = some (.lst [.bl true, .bl true, .bl true, .bl true]) := gD8
          have dp4 : ∀ {H : Hp}, DpAll K H [.bl true, .bl true, .bl true, .bl true] [.bool true, .bool true, .bool true, .bool true] := .cons (.bl _) (.cons (.bl _) (.cons (.bl _) (.cons (.bl _) .nil)))
          have ok4 : (PyData.list [.bool true, .bool true, .bool true, .bool true]).showable = true ∧ (PyData.list [.bool true, .bool true, .bool true, .bool true]).hasDict = false ∧ (PyData.list [.bool true, .bool true, .bool true, .bool true]).depth ≤ 60 ∧ (PyData.list [.bool true, .bool true, .bool true, .bool true]).shown.length ≤ sizeLine := ⟨rfl, rfl, by decide +kernel, by decide +kernel⟩
          refine ⟨D8, _, rfl, .lst (SqL.of gD8) dp4, ok4, ?_⟩
          walk_at "ev"
          intro h1 k_h1
          have r1 := (Z.start0 HF).alloc (.lst [.bl true]) k_h1
          walk_at "ev"
          refine ⟨h1, 4, [.bl true], rfl, rfl, r1.get (.head _), by decide, by decide, Nat.le_of_ble_eq_true rfl, fun h2 k_h2 => ?_⟩
          rw [show (List.replicate (Int.toNat 4) [V.bl true]).flatten = [.bl true, .bl true, .bl true, .bl true] from rfl]
          have r2 := r1.alloc (.lst [.bl true, .bl true, .bl true, .bl true]) k_h2
          walk_at "ev"
          refine ⟨h2, _, rfl, .lst (SqL.of (r2.get (.head _))) dp4, ok4, ?_⟩
          walk_at "ev"
          have ed : ∀ v : V, decide (v = v) = true := fun v => decide_eq_true rfl
          rw [ed]
          have fEnd : Fr [] H5 _ := ((e1.trans e2).trans (e3.drop fAll k_od)).trans (fC.trans (e8.trans (r2.fr0 (by simp))))
          exact k _ (fr0.trans fEnd.up0) ((q5.fr fEnd).le (by omega))
end

set_option Elab.async false
set_option linter.all false
set_option maxRecDepth 100000
set_option maxHeartbeats 4000000
set_option exponentiation.threshold 2000

theorem kb_price_at_value_price : KwOk "price_at" "price_at" s_price_at ["price", "value"] ["value", "price"] 0 revA := fun _ _ _ _ _ _ us ws h1 h2 => match us, ws, h1, h2 with
  | [], [_, _], _, _ => rfl
theorem kr_price_at_value_price {vs : List V} {us : List Value} {zs : List V} {ws : List Value} (h1 : Vals vs us) (h2 : Vals zs ws) (h3 : zs.length = ["value", "price"].length) (h4 : vs.length = 0) : Vals (revA vs zs) (revA us ws) := kr_rev0 h1 h2 h3 h4
theorem kb_cost_of_price_row : KwOk "cost_of" "cost_of" s_cost_of ["row", "price"] ["price", "row"] 0 revA := fun _ _ _ _ _ _ us ws h1 h2 => match us, ws, h1, h2 with
  | [], [_, _], _, _ => rfl
theorem kr_cost_of_price_row {vs : List V} {us : List Value} {zs : List V} {ws : List Value} (h1 : Vals vs us) (h2 : Vals zs ws) (h3 : zs.length = ["price", "row"].length) (h4 : vs.length = 0) : Vals (revA vs zs) (revA us ws) := kr_rev0 h1 h2 h3 h4
def lad (s lo m : Int) (n : Nat) : Pr := ⟨s, (List.range n).map fun (i : Nat) => (lo + (i : Int), m)⟩
theorem lad_at {s lo m : Int} {n i : Nat} (h : i < n) : (lad s lo m n).cs.getD i (0, 0) = (lo + (i : Int), m) := by
  unfold lad
  rw [List.getD_eq_getElem?_getD, List.getElem?_map, List.getElem?_range h]
  rfl
theorem lad_len {s lo m : Int} {n : Nat} : (lad s lo m n).cs.length = n := by
  unfold lad
  rw [List.length_map, List.length_range]
theorem lad_ok {s lo m : Int} {n : Nat} (hs : -1000 ≤ s ∧ s ≤ 1000) (hn : n ≤ 12) (hlo : 0 ≤ lo ∧ lo ≤ 10) (hm : 1 ≤ m ∧ m ≤ 10) : (lad s lo m n).od.price = true ∧ (lad s lo m n).Sm := by
  have e1 : (1000 : Int) ≤ 2 ^ 100 := by decide +kernel
  have e2 : (1000 : Int) ≤ 2 ^ 40 := by decide +kernel
  have hc : ∀ c ∈ (lad s lo m n).cs, Me c.1 ∧ 1 ≤ c.2 ∧ c.2 ≤ 2 ^ 40 := fun c h => by
    obtain ⟨i, hi, rfl⟩ := List.mem_map.mp h
    have := List.mem_range.mp hi
    refine ⟨?_, ?_, ?_⟩
    · unfold Me
      dsimp only
      omega
    · exact hm.1
    · dsimp only
      omega
  refine ⟨Pr.isPrice (by rw [lad_len]; exact hn) (fun i hi => ?_) (fun c h => (hc c h).2.1), by rw [lad_len]; omega, hs, hc⟩
  rw [lad_len] at hi
  rw [lad_at (by omega), lad_at hi]
  show lo + (i : Int) < lo + ((i + 1 : Nat) : Int)
  omega
theorem me_small {x : Int} (h : -1000 ≤ x ∧ x ≤ 1000) : Me x := by
  have e1 : (1000 : Int) ≤ 2 ^ 100 := by decide +kernel
  unfold Me
  omega
section
variable {P : Program} {w : World} {K : PySem.W.Frag} {mg : Str → Option Value} {base : Heap}
def sp_law (K : PySem.W.Frag) : Sp := fun vs H Q _ => ∃ (a : Addr) (ns : List Int), vs = [.ref a] ∧ SqL K H a (ns.map V.int) ∧ ns.length ≤ 63 ∧ ∀ H', Q (.bl true) H'
theorem k_law (T : Tx fa fn K mg base) : FkG P w K mg base "law" ["script"] 7 (sp_law K) s_law "law" := by
  refine T.fkG 15 32 (q := "law") (st := s_law) sc_law (fun _ _ _ _ _ _ us hl => match us, hl with | [_], _ => rfl) (fun vs H Q E h => ?_) (fun cdv A outer s H vs Q E gd hr h => ?_)
  · obtain ⟨a, ns, rfl, _⟩ := h
    rfl
  · obtain ⟨a, ns, rfl, hs, hl, k⟩ := h
    have hlen : (ns.map V.int).length = ns.length := List.length_map _
    refine ⟨_, (pss_cons (ps_for PassesOwn.never rfl (pi_range1 (by rfl) (T.fr 24) (pa_cons (pe_callB (call_max2 rfl) (by rfl) (T.fr 16) (by decide +kernel) (pa_cons pe_int (pa_cons (pe_callB (call_min2 rfl) (by rfl) (T.fr 31) (by decide +kernel) (pa_cons pe_int (pa_cons (pe_callB call_len_seq (by rfl) (T.fr 5) (by decide +kernel) (pa_cons (pv 0) pa_nil)) pa_nil))) pa_nil))) pa_nil)) (pg_name (i := 1) sc_law.nd rfl (by first | exact Or.inl rfl | exact Or.inr rfl)) (pss_cons (ps_set (i := 2) sc_law.nd rfl (by first | exact Or.inl rfl | exact Or.inr rfl) (pe_f (k__law_jar T) hr (pa_cons (pv 0) (pa_cons (pv 1) pa_nil))))
      (pss_one (ps_for PassesOwn.never rfl (pi_range1 (by rfl) (T.fr 24) (pa_cons pe_int pa_nil)) (pg_name (i := 3) sc_law.nd rfl (by first | exact Or.inl rfl | exact Or.inr rfl)) (pss_one (ps_if (PW.pt (pw_or (pt_not (pt_val (pe_fG (k__law_prices_right T) gd hr (pa_cons (pv 2) pa_nil)))) (pw_or1 (pt_not (pt_val (pe_fG (k__law_odd_right T) gd hr (pa_cons (pv 2) pa_nil))))))) (pss_one (ps_ret pe_bl)) pss_nil))))))
      (pss_cons (ps_set (i := 4) sc_law.nd rfl (by first | exact Or.inl rfl | exact Or.inr rfl) (pe_tup (pa_cons pe_int (pa_cons (pe_lc (own := [("one", 6)]) (tt := tYes) (te := (tTup (tCons (tVar 6) (tCons (tC (.int 2)) tNil)))) rfl sc_law.nd (pi_range2 (by rfl) (T.fr 24) (pa_cons pe_int (pa_cons pe_int pa_nil))) (blkOk_by (N := ["script", "k", "jar", "turn", "squares_like", "told", "one"]) (sc := defScope s_law) (by decide +kernel)) (fun _ _ _ _ _ => (pg_name (i := 6) sc_law.nd rfl (by first | exact Or.inl rfl | exact Or.inr rfl))) (fun _ _ _ _ _ => pts_nil) (fun _ _ _ _ _ => (pe_tup (pa_cons (pv 6) (pa_cons pe_int pa_nil))))) pa_nil))))
      (pss_cons (ps_set (i := 5) sc_law.nd rfl (by first | exact Or.inl rfl | exact Or.inr rfl) (pe_lst (pa_cons (pe_fK (k_price_at T) hr (kb_price_at_value_price) (kr_price_at_value_price) (pk_cons pe_int (pk_cons (pv 4) pk_nil))) (pa_cons (pe_fK (k_cost_of T) hr (kb_cost_of_price_row) (kr_cost_of_price_row) (pk_cons (pv 4) (pk_cons (pe_lst (pa_cons pe_int (pa_cons pe_int (pa_cons pe_int pa_nil)))) pk_nil))) (pa_cons (pe_f (k_price_at T) hr (pa_cons (pe_tup (pa_cons pe_int (pa_cons (pe_lst pa_nil) pa_nil))) (pa_cons (pe_un un_neg pe_int) pa_nil))) pa_nil)))))
      (pss_cons (ps_expr (pe_bm PySem.F.plainAttrs_list PySem.F.slot_list_append PySem.F.type_list_append mt_append (pv 5) (pa_cons (pe_f (k_price_at T) hr (pa_cons (pe_tup (pa_cons pe_int (pa_cons (pe_lc (own := [("one", 6)]) (tt := tYes) (te := (tTup (tCons (tVar 6) (tCons (tC (.int 2)) tNil)))) rfl sc_law.nd (pi_range2 (by rfl) (T.fr 24) (pa_cons pe_int (pa_cons pe_int pa_nil))) (blkOk_by (N := ["script", "k", "jar", "turn", "squares_like", "told", "one"]) (sc := defScope s_law) (by decide +kernel)) (fun _ _ _ _ _ => (pg_name (i := 6) sc_law.nd rfl (by first | exact Or.inl rfl | exact Or.inr rfl))) (fun _ _ _ _ _ => pts_nil) (fun _ _ _ _ _ => (pe_tup (pa_cons (pv 6) (pa_cons pe_int pa_nil))))) pa_nil))) (pa_cons pe_int pa_nil))) pa_nil)))
      (pss_cons (ps_expr (pe_bm PySem.F.plainAttrs_list PySem.F.slot_list_append PySem.F.type_list_append mt_append (pv 5) (pa_cons (pe_f (k_price_at T) hr (pa_cons (pe_tup (pa_cons pe_int (pa_cons (pe_lc (own := [("one", 6)]) (tt := tYes) (te := (tTup (tCons (tVar 6) (tCons (tC (.int 1)) tNil)))) rfl sc_law.nd (pi_range1 (by rfl) (T.fr 24) (pa_cons pe_int pa_nil)) (blkOk_by (N := ["script", "k", "jar", "turn", "squares_like", "told", "one"]) (sc := defScope s_law) (by decide +kernel)) (fun _ _ _ _ _ => (pg_name (i := 6) sc_law.nd rfl (by first | exact Or.inl rfl | exact Or.inr rfl))) (fun _ _ _ _ _ => pts_nil) (fun _ _ _ _ _ => (pe_tup (pa_cons (pv 6) (pa_cons pe_int pa_nil))))) pa_nil))) (pa_cons pe_int pa_nil))) pa_nil)))
      (pss_one (ps_ret (pe_cmpR (op_eqD hr.units) (pv 5) (pe_lst (pa_cons pe_int (pa_cons pe_int (pa_cons (pe_un un_neg pe_int) (pa_cons pe_int (pa_cons pe_int pa_nil)))))) (nomark _))))))))), ?_⟩
    walk_at "ev0"
    refine ⟨by split <;> split <;> omega, by split <;> split <;> omega, ?_⟩
    have five : (if (1 : Int) < (if ((ns.map V.int).length : Int) < 5 then ((ns.map V.int).length : Int) else 5) then (if ((ns.map V.int).length : Int) < 5 then ((ns.map V.int).length : Int) else 5) else 1).toNat ≤ 5 := by
      split <;> split <;> omega
    refine for_it (walk_range (lo := 0)) (fun i σ H' => ∃ u1 u2 u3 : Option V, σ = [some (.ref a), u1, u2, u3, none, none, none] ∧ Fr [] H H') ⟨none, none, none, rfl, Fr.refl H⟩ (fun _ _ _ _ _ => trivial) (fun i x σ H1 H1' hi p y => ?_) (fun σ H1 p => ?_)
    · obtain ⟨u1, u2, u3, rfl, f1⟩ := p
      obtain ⟨rfl, rfl⟩ := y
      have hi' : i < 5 := Nat.lt_of_lt_of_le hi five
      walk_at "ev"
      refine ⟨a, ns, _, rfl, f1.sql hs nin, ⟨by omega, by omega⟩, fun j H2 hj f2 J2 => ?_⟩
      walk_at "ev"
      refine ⟨by decide, by decide, ?_⟩
      have f2' := f1.trans f2
      have hj0 : H j = none := f1.none hj
      refine for_it (walk_range (lo := 0) (n := 3)) (fun i2 σ H' => ∃ u3 : Option V, σ = [some (.ref a), some (.int (0 + (i : Int))), some (.ref j), u3, none, none, none] ∧ Fr [] H H' ∧ JarAt H' j (20000 + 1000 * (12 - i2))) ⟨u3, rfl, f2', J2.le (by decide)⟩ (fun _ _ _ _ _ => trivial) (fun i2 x σ H3 H3' hi2 p y => ?_) (fun σ H3 p => ?_)
      · obtain ⟨u3, rfl, f3, J3⟩ := p
        obtain ⟨rfl, rfl⟩ := y
        generalize hb : 20000 + 1000 * (12 - (i2 + 1)) = bd
        have J3 : JarAt _ j (bd + 1000) := J3.le (by omega)
        walk_at "ev"
        refine ⟨j, bd + 700, rfl, J3, fun H4 f4 q4 => ?_⟩
        walk_at "ev"
        refine ⟨j, bd, rfl, q4.le (by omega), fun H5 f5 q5 => ?_⟩
        walk_at "ev"
        exact ⟨_, rfl, (f3.drop (f4.trans f5) hj0), q5⟩
      · obtain ⟨u3, rfl, f3, _⟩ := p
        exact ⟨_, _, _, rfl, f3⟩
    · obtain ⟨u1, u2, u3, rfl, f1⟩ := p
      walk_at "ev"
      have l1 := lad_ok (s := 0) (lo := 1) (m := 2) (n := 5) (by decide) (by decide) (by decide) (by decide)
      have l2 := lad_ok (s := 3) (lo := 1) (m := 2) (n := 0) (by decide) (by decide) (by decide) (by decide)
      have l3 := lad_ok (s := 0) (lo := 1) (m := 2) (n := 8) (by decide) (by decide) (by decide) (by decide)
      have l4 := lad_ok (s := 0) (lo := 0) (m := 1) (n := 12) (by decide) (by decide) (by decide) (by decide)
      refine ⟨⟨by decide, by decide, by decide, by decide⟩, ?_⟩
      refine lc_pairs (walk_range (lo := 1) (n := 5)) (fun (i : Nat) => ((1 + (i : Int) : Int), (2 : Int))) (by decide) (fun _ _ => trivial) (fun i H' x H'' y => by rw [y.1]; exact Fr.refl _) (fun i z H' H'' R hi e y kR => ?_) (fun D1 H2 acc1 hD1 e1 gD1 ho1 => ?_)
      · obtain ⟨rfl, rfl⟩ := y
        walk_at "ev"
        refine ⟨rfl, ?_⟩
        walk_at "ev"
        intro t9 k9
        exact kR _ _ ((Fr.refl _).new k9) upd_same
      walk_at "ev"
      intro s1 k_s1
      have x1 := (Z.start0 H2).alloc (.tup [.int 0, .ref D1]) k_s1
      have f1' := x1.fr0 (by simp)
      have o1 : OAt _ (.ref s1) (lad 0 1 2 5).od := .tup (x1.get (.head _)) (.cons (.int 0) (.cons (.lst (f1' _ _ nin gD1) (ho1.mono f1')) .nil))
      walk_at "ev"
      refine ⟨rfl, .ref s1, lad 0 1 2 5, 4, rfl, o1, l1.1, l1.2, me_small (by decide), fun H3 f3 => ?_⟩
      walk_at "ev"
      intro r k_r
      have x3 := (Z.start0 H3).alloc (.lst [.int 4, .int 0, .int 2]) k_r
      walk_at "ev"
      refine ⟨rfl, r, .ref s1, [4, 0, 2], lad 0 1 2 5, rfl, x3.get (.head _), by decide, o1.mono (f3.trans (x3.fr0 (by simp))), l1.1, l1.2, fun x hx => me_small ?_, fun H4 f4 => ?_⟩
      · simp only [List.mem_cons, List.not_mem_nil, or_false] at hx
        omega
      walk_at "ev"
      intro q1 k_q1
      have x4 := (Z.start0 H4).alloc (.lst []) k_q1
      walk_at "ev"
      intro q2 k_q2
      have x5 := x4.alloc (.tup [.int 3, .ref q1]) k_q2
      walk_at "ev"
      refine ⟨.ref q2, lad 3 1 2 0, -5, rfl, .tup (x5.get (.head _)) (.cons (.int 3) (.cons (.lst (x5.get (.tail _ (.head _))) .nil) .nil)), l2.1, l2.2, me_small (by decide), fun H5 f5 => ?_⟩
      walk_at "ev"
      intro td k_td
      rw [show (lad 0 1 2 5).f 4 = 12 from by decide +kernel, show (([4, 0, 2] : List Int).map (lad 0 1 2 5).f).sum = 14 from by decide +kernel, show (lad 3 1 2 0).f (-5) = -15 from by decide +kernel]
      have g5 : (upd H5 td (.lst [.int 12, .int 14, .int (-15)])) td = some (.lst [.int 12, .int 14, .int (-15)]) := upd_same
      clear x1 x3 x4 x5 o1 f1'
      generalize upd H5 td (.lst [.int 12, .int 14, .int (-15)]) = H6 at g5 ⊢
      walk_at "ev"
      refine ⟨⟨by decide, by decide, by decide, by decide⟩, ?_⟩
      refine lc_pairs (walk_range (lo := 1) (n := 8)) (fun (i : Nat) => ((1 + (i : Int) : Int), (2 : Int))) (by decide) (fun _ _ => trivial) (fun i H' x H'' y => by rw [y.1]; exact Fr.refl _) (fun i z H' H'' R hi e y kR => ?_) (fun D2 H7 acc2 hD2 e2 gD2 ho2 => ?_)
      · obtain ⟨rfl, rfl⟩ := y
        walk_at "ev"
        refine ⟨rfl, ?_⟩
        walk_at "ev"
        intro t9 k9
        exact kR _ _ ((Fr.refl _).new k9) upd_same
      walk_at "ev"
      intro s2 k_s2
      have x1 := (Z.start0 H7).alloc (.tup [.int 0, .ref D2]) k_s2
      have f1' := x1.fr0 (by simp)
      have o1 : OAt _ (.ref s2) (lad 0 1 2 8).od := .tup (x1.get (.head _)) (.cons (.int 0) (.cons (.lst (f1' _ _ nin gD2) (ho2.mono f1')) .nil))
      have g7 := f1' _ _ nin (e2 _ _ nin g5)
      walk_at "ev"
      refine ⟨.ref s2, lad 0 1 2 8, 9, rfl, o1, l3.1, l3.2, me_small (by decide), fun H8 f8 => ?_⟩
      have g8 := f8 _ _ nin g7
      rw [show (lad 0 1 2 8).f 9 = 72 from by decide +kernel]
      walk_at "ev"
      have g9 : (upd H8 td (.lst ([.int 12, .int 14, .int (-15)] ++ [.int 72]))) td = some (.lst [.int 12, .int 14, .int (-15), .int 72]) := upd_same
      clear x1 o1 f1'
      generalize upd H8 td _ = H9 at g9 ⊢
      refine ⟨by decide, by decide, ?_⟩
      refine lc_pairs (walk_range (lo := 0) (n := 12)) (fun (i : Nat) => ((0 + (i : Int) : Int), (1 : Int))) (by decide) (fun _ _ => trivial) (fun i H' x H'' y => by rw [y.1]; exact Fr.refl _) (fun i z H' H'' R hi e y kR => ?_) (fun D3 H10 acc3 hD3 e3 gD3 ho3 => ?_)
      · obtain ⟨rfl, rfl⟩ := y
        walk_at "ev"
        refine ⟨rfl, ?_⟩
        walk_at "ev"
        intro t9 k9
        exact kR _ _ ((Fr.refl _).new k9) upd_same
      walk_at "ev"
      intro s3 k_s3
      have x1 := (Z.start0 H10).alloc (.tup [.int 0, .ref D3]) k_s3
      have f1' := x1.fr0 (by simp)
      have o1 : OAt _ (.ref s3) (lad 0 0 1 12).od := .tup (x1.get (.head _)) (.cons (.int 0) (.cons (.lst (f1' _ _ nin gD3) (ho3.mono f1')) .nil))
      have g10 := f1' _ _ nin (e3 _ _ nin g9)
      walk_at "ev"
      refine ⟨.ref s3, lad 0 0 1 12, 12, rfl, o1, l4.1, l4.2, me_small (by decide), fun H11 f11 => ?_⟩
      have g11 := f11 _ _ nin g10
      rw [show (lad 0 0 1 12).f 12 = 78 from by decide +kernel]
      walk_at "ev"
      have g12 : (upd H11 td (.lst ([.int 12, .int 14, .int (-15), .int 72] ++ [.int 78]))) td = some (.lst (([12, 14, -15, 72, 78] : List Int).map V.int)) := upd_same
      clear x1 o1 f1'
      generalize upd H11 td _ = H12 at g12 ⊢
      intro rr k_rr
      have x2 := (Z.start0 H12).alloc (.lst [.int 12, .int 14, .int (-15), .int 72, .int 78]) k_rr
      walk_at "ev"
      refine r_eqI (ns := [12, 14, -15, 72, 78]) (ms := [12, 14, -15, 72, 78]) (SqL.of (x2.keep g12 (by simp))) (SqL.of (x2.get (.head _))) ?_
      rw [show decide (([12, 14, -15, 72, 78] : List Int) = [12, 14, -15, 72, 78]) = true from by decide]
      exact k _
end

set_option Elab.async false
set_option linter.all false
set_option maxRecDepth 100000
set_option maxHeartbeats 0
abbrev R : PySem.W.OpenRow := PySem.W.OpenLaw.row PySem.Challenge.rw_evenbits_k24_prices_of_entries
abbrev hk : PySem.W.Hook := hookM 6 fa fn
def ob (s : PySem.W.SharedT) : He.AlD := obsMG 6 fa fn (HandSHeadRun.getT s)
theorem ob_eq (s : PySem.W.SharedT) : ob s = hk.obs s.abs := obsMG_eq (HandSHeadRun.getT_eq s)
theorem run (w : World) : HandSHeadRun.RunEq R (PySem.W.view R.prog [25]) hk ob 4000 ["__name__", "MOST_TIMES", "is_whole", "is_whole_list", "is_whole_tuple", "EvenError", "InvalidRow", "InvalidNumber", "InvalidPrice", "MOST_CORNERS", "is_price", "check_price", "price_at", "cost_of", "_price_of", "_law_jar", "_law_dip", "_law_price", "_law_cost", "_law_steps", "_law_prices_right", "_law_odd_right"] w := by
  intro os
  kernel_rfl

set_option Elab.async false
set_option linter.all false
set_option maxRecDepth 100000
set_option maxHeartbeats 0
theorem law_factsG {P : Program} {w : World} {K : PySem.W.Frag} {h : Heap} {mg : Str → Option Value} {f : Addr} (X : K.In h) (G : h.Ns mainGlobals mg) (hfa : mg ("law" : Str) = some (.ref f)) (c : SaysM fa fn K) :
    ∃ fd : FuncData, (∀ (s : Shared) (v : Value), BindsTo s fd ⟨[v], []⟩ [("script", v)]) ∧ ∀ base : Heap, K.In base → base.Ns mainGlobals mg → FnG P w K mg base 7 f fd ["script"] (sp_law K) := by
  obtain ⟨f0, fd0, F0, g0, _, b0, fu0⟩ := (k_law (P := P) (w := w) (⟨c, X, G⟩ : Tx fa fn K mg h)).ex
  obtain rfl : f0 = f := by
    have e := g0.symm.trans hfa
    cases e
    rfl
  have b := FunD.bindsA (ps := ["script"]) fu0 fun _ _ _ _ _ _ us hl => match us, hl with | [_], _ => rfl
  refine ⟨fd0, fun s v => b s [v] rfl, fun bs hX hG => ?_⟩
  obtain ⟨f1, fd1, F1, g1, _, _, fu1⟩ := (k_law (P := P) (w := w) (⟨c, hX, hG⟩ : Tx fa fn K mg bs)).ex
  obtain rfl : f1 = f0 := by
    have e := g1.symm.trans hfa
    cases e
    rfl
  obtain ⟨_, _, _, _, _, _, _, _, _, _, _, lk0, _⟩ := fu0.ex
  obtain ⟨_, _, _, _, _, _, _, _, _, _, _, lk1, _⟩ := fu1.ex
  obtain rfl : fd1 = fd0 := by
    have e := lk1.symm.trans lk0
    cases e
    rfl
  exact F1
end Ev
open PySem PySem.W PySem.Calls PyProof.Rows
theorem PySem.Challenge.cw_evenbits_k24_prices_of_entries_holds : PySem.Challenge.rw_evenbits_k24_prices_of_entries.Holds := by
  w_on; o_law
  refine HandSHeadRun.head_any (r := OpenLaw.row PySem.Challenge.rw_evenbits_k24_prices_of_entries) (q := view (OpenLaw.row PySem.Challenge.rw_evenbits_k24_prices_of_entries).prog [25]) (H := Ev.hk) (ob := Ev.ob) (M := 4000)
    (loose := ["__name__", "MOST_TIMES", "is_whole", "is_whole_list", "is_whole_tuple", "EvenError", "InvalidRow", "InvalidNumber", "InvalidPrice", "MOST_CORNERS", "is_price", "check_price", "price_at", "cost_of", "_price_of", "_law_jar", "_law_dip", "_law_price", "_law_cost", "_law_steps", "_law_prices_right", "_law_odd_right"]) (d := HandSHeadRun.topDef (OpenLaw.row PySem.Challenge.rw_evenbits_k24_prices_of_entries).prog 25) (kwd := []) Ev.ob_eq
    (by kernel_rfl) (fun s => by kernel_rfl) Ev.run (by kernel_rfl) (by kernel_rfl) (by kernel_rfl) (by rfl) (by first | assumption | decide +kernel) (by decide +kernel) ⟨rfl, rfl, rfl, rfl, rfl, by decide +kernel⟩ ?hw ?hc
  case hw => w_witness2
  case hc =>
    refine Ev.walk_ofG (l := PySem.Challenge.rw_evenbits_k24_prices_of_entries) (n := 63) (k := 7) (x := "script") rfl (by decide) (by kernel_rfl) ⟨rfl, by decide, by decide⟩ ?F
    intro w mg fa h Y G hmg0
    obtain ⟨K, KX, c⟩ := Y
    have hmg : mg ("law" : PySem.Str) = some (.ref fa) := by
      have e : (HandSHeadRun.topDef (OpenLaw.row PySem.Challenge.rw_evenbits_k24_prices_of_entries).prog 25).name = ("law" : PySem.Str) := by kernel_rfl
      rw [← e]
      exact hmg0
    obtain ⟨fd, hb, hF⟩ := Ev.law_factsG (P := (PySem.Challenge.rw_evenbits_k24_prices_of_entries).prog) (w := w) KX G hmg c
    exact ⟨K, fd, Ev.sp_law K, KX, hb, fun H a ns hl _ hS => ⟨a, ns, rfl, hS, hl, fun _ => rfl⟩, hF⟩

