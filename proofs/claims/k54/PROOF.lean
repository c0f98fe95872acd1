import PyProof.Rows.All
import Wide.All
import OpenK.AllK
import Wide.FinOn
import HandS.ForMost
import HandS.Flow
import HandS.Style
import HandS.Wide
import HandS.IsInst
import HandS.Property
import HandS.Defaults
import HandS.HeadHook2
import HandS.HeadNt
import HandS.MakeKw
import HandS.Walk
import PyProof.InstNe
import KE.GoesEnumKw
import HandS.Iter
import HandS.Flt
import HandS.TryOnly
import HandS.Ends
import PyProof.ReprRoads
import HandS.Zip
import KE.KDictZip
import HandS.SortKw
import HandS.Star
import HandS.SortRule
import PySem.Challenge.RW_evenbits_k54_joint_plans_and_shares
import Lean
import KE.KStateDown
import HandS.Head0
import HandS.Head1
import HandS.Head2
import HandS.HeadEnd
import HandS.WideBits
import KE.KEqDeep
import HandS.Evl
import PyProof.ReprLen
set_option Elab.async false
set_option linter.all false
set_option maxRecDepth 100000
set_option maxHeartbeats 4000000
namespace Ev
open PySem PySem.Spec PyProof.Rows L2
def Fr (J : List Addr) (H H' : Hp) : Prop := ∀ a o, a ∉ J → H a = some o → H' a = some o
theorem Fr.refl {J : List Addr} (H : Hp) : Fr J H H := fun _ _ _ h => h
theorem Fr.trans {J : List Addr} {H H1 H2 : Hp} (a : Fr J H H1) (b : Fr J H1 H2) : Fr J H H2 := fun x o hx h => b x o hx (a x o hx h)
theorem Fr.up {J J' : List Addr} {H H1 : Hp} (a : Fr J H H1) (s : ∀ x, x ∈ J → x ∈ J') : Fr J' H H1 := fun x o hx h => a x o (fun z => hx (s x z)) h
theorem Fr.up0 {J : List Addr} {H H1 : Hp} (a : Fr [] H H1) : Fr J H H1 := a.up fun _ z => nomatch z
theorem Fr.new {J : List Addr} {H H1 : Hp} {p : Addr} {o : HO} (a : Fr J H H1) (hp : H1 p = none) : Fr J H (upd H1 p o) := fun x u hx h => by
  have h1 := a x u hx h
  rw [upd_ne (ne_of_none h1 hp)]
  exact h1
theorem Fr.get {J : List Addr} {H H1 : Hp} (a : Fr J H H1) {x : Addr} {o : HO} (h : H x = some o) (hx : x ∉ J) : H1 x = some o := a x o hx h
theorem Fr.sql {J : List Addr} {K : PySem.W.Frag} {H H1 : Hp} (a : Fr J H H1) {x : Addr} {xs : List V} (h : SqL K H x xs) (hx : x ∉ J) : SqL K H1 x xs := by
  rcases h with (h | ⟨o, h⟩) | h
  · exact .inl (.inl (a x _ hx h))
  · exact .inl (.inr ⟨o, a x _ hx h⟩)
  · exact .inr h
theorem Fr.sqt {J : List Addr} {K : PySem.W.Frag} {H H1 : Hp} (a : Fr J H H1) {x : Addr} {xs : List V} (h : SqT K H x xs) (hx : x ∉ J) : SqT K H1 x xs := by
  rcases h with (h | ⟨o, h⟩) | h
  · exact .inl (.inl (a x _ hx h))
  · exact .inl (.inr ⟨o, a x _ hx h⟩)
  · exact .inr h
/-- the addresses of a list of entries -/
def HL (H : Hp) (N : List (Addr × HO)) : Prop := (N.map (·.1)).Nodup ∧ ∀ q ∈ N, H q.1 = some q.2
def New (H H' : Hp) (N : List (Addr × HO)) : Prop := HL H' N ∧ ∀ q ∈ N, H q.1 = none
abbrev En := Nat × Addr × HO
/-- entries: 0 stood at the entry and stays, 1 stood at the entry and may change, 2 is new -/
structure Z (H0 H : Hp) (E : List En) : Prop where
  nd : (E.map (·.2.1)).Nodup
  at_ : ∀ q ∈ E, H q.2.1 = some q.2.2
  fresh : ∀ q ∈ E, q.1 = 2 → H0 q.2.1 = none
  fr : ∀ a o, (∀ q ∈ E, q.1 = 1 → q.2.1 ≠ a) → H0 a = some o → H a = some o
section
variable {H0 H H' : Hp} {E : List En}
theorem Z.get (z : Z H0 H E) {t : Nat} {a : Addr} {o : HO} (h : (t, a, o) ∈ E) : H a = some o := z.at_ _ h
theorem Z.start0 (H : Hp) : Z H H [] := ⟨List.nodup_nil, (fun _ h => nomatch h), (fun _ h => nomatch h), fun _ _ _ h => h⟩
theorem Z.old (z : Z H0 H E) {a : Addr} {o : HO} (t : Nat) (ht : t ≠ 2) (h : H a = some o) (hn : ∀ q ∈ E, q.2.1 ≠ a) : Z H0 H ((t, a, o) :: E) :=
  ⟨by
    rw [List.map_cons, List.nodup_cons]
    refine ⟨fun m => ?_, z.nd⟩
    obtain ⟨q, hq, e⟩ := List.mem_map.mp m
    exact hn q hq e,
  fun q hq => by
    rcases List.mem_cons.mp hq with rfl | hq
    · exact h
    · exact z.at_ q hq,
  fun q hq e => by
    rcases List.mem_cons.mp hq with rfl | hq
    · exact absurd e ht
    · exact z.fresh q hq e,
  fun b u hb h' => z.fr b u (fun q hq => hb q (List.mem_cons_of_mem _ hq)) h'⟩
theorem Z.new (z : Z H0 H E) {p : Addr} {o : HO} (hp : H p = none) (h0 : H0 p = none) : Z H0 (upd H p o) ((2, p, o) :: E) := by
  have hn : ∀ q ∈ E, q.2.1 ≠ p := fun q hq => ne_of_none (z.at_ q hq) hp
  refine ⟨?_, fun q hq => ?_, fun q hq e => ?_, fun b u hb h' => ?_⟩
  · rw [List.map_cons, List.nodup_cons]
    refine ⟨fun m => ?_, z.nd⟩
    obtain ⟨q, hq, e⟩ := List.mem_map.mp m
    exact hn q hq e
  · rcases List.mem_cons.mp hq with rfl | hq
    · exact upd_same
    · rw [upd_ne (hn q hq)]
      exact z.at_ q hq
  · rcases List.mem_cons.mp hq with rfl | hq
    · exact h0
    · exact z.fresh q hq e
  · have h1 := z.fr b u (fun q hq => hb q (List.mem_cons_of_mem _ hq)) h'
    rw [upd_ne (ne_of_none h1 hp)]
    exact h1
/-- new at the heap is new at the entry's, as long as all that may change is known -/
theorem Z.none (z : Z H0 H E) {p : Addr} (hp : H p = none) : H0 p = none := by
  cases e : H0 p with
  | none => rfl
  | some o =>
    have h1 := z.fr p o (fun q hq _ => ne_of_none (z.at_ q hq) hp) e
    rw [hp] at h1
    cases h1
theorem Z.alloc (z : Z H0 H E) {p : Addr} (o : HO) (hp : H p = Option.none) : Z H0 (upd H p o) ((2, p, o) :: E) := z.new hp (z.none hp)
theorem mem_set_of {α : Type} {l : List α} {i : Nat} {x y : α} (h : y ∈ l.set i x) : y = x ∨ ∃ j, j ≠ i ∧ l[j]? = some y := by
  obtain ⟨j, hj, e⟩ := List.mem_iff_getElem.mp h
  rw [List.getElem_set] at e
  by_cases hij : i = j
  · rw [if_pos hij] at e
    exact .inl e.symm
  · rw [if_neg hij] at e
    refine .inr ⟨j, fun z => hij z.symm, ?_⟩
    rw [List.getElem?_eq_getElem (by rw [List.length_set] at hj; exact hj), e]
theorem Z.other (z : Z H0 H E) {i j : Nat} {q r : En} (hi : E[i]? = some q) (hj : E[j]? = some r) (h : j ≠ i) : r.2.1 ≠ q.2.1 := fun e => by
  have h1 : (E.map (·.2.1))[i]? = some q.2.1 := by rw [List.getElem?_map, hi] <;> rfl
  have h2 : (E.map (·.2.1))[j]? = some r.2.1 := by rw [List.getElem?_map, hj] <;> rfl
  rw [e] at h2
  obtain ⟨g1, e1⟩ := List.getElem?_eq_some_iff.mp h1
  obtain ⟨g2, e2⟩ := List.getElem?_eq_some_iff.mp h2
  exact h ((List.getElem_inj z.nd).mp (e2.trans e1.symm))
theorem map_set_same {i : Nat} {t : Nat} {a : Addr} {o o' : HO} (h : E[i]? = some (t, a, o)) : (E.set i (t, a, o')).map (·.2.1) = E.map (·.2.1) := by
  rw [List.map_set]
  have h1 : (E.map (·.2.1))[i]? = some a := by rw [List.getElem?_map, h] <;> rfl
  obtain ⟨g1, e1⟩ := List.getElem?_eq_some_iff.mp h1
  refine List.ext_getElem (by simp) fun k k1 k2 => ?_
  rw [List.getElem_set]
  split
  · rename_i e
    subst e
    exact e1.symm
  · rfl
/-- the heap changed at the i-th entry alone -/
theorem Z.move (z : Z H0 H E) (i : Nat) {t : Nat} {a : Addr} {o o' : HO} (hi : E[i]? = some (t, a, o)) (ht : t = 1 ∨ t = 2) (ha : H' a = some o') (f : Fr [a] H H') : Z H0 H' (E.set i (t, a, o')) := by
  have hin := List.mem_of_getElem? hi
  refine ⟨?_, fun q hq => ?_, fun q hq e => ?_, fun b u hb h' => ?_⟩
  · rw [map_set_same hi]
    exact z.nd
  · rcases mem_set_of hq with rfl | ⟨j, hj, e⟩
    · exact ha
    · exact f _ _ (by
        intro m
        rcases List.mem_cons.mp m with m | m
        · exact z.other hi e hj m
        · cases m) (z.at_ q (List.mem_of_getElem? e))
  · rcases mem_set_of hq with rfl | ⟨j, hj, e2⟩
    · exact z.fresh (t, a, o) hin e
    · exact z.fresh q (List.mem_of_getElem? e2) e
  · have hba : b ≠ a := fun e => by
      subst e
      rcases ht with rfl | rfl
      · exact hb (1, b, o') (List.mem_iff_getElem?.mpr ⟨i, by rw [List.getElem?_set_self (List.getElem?_eq_some_iff.mp hi).1]⟩) rfl rfl
      · have := z.fresh _ hin rfl
        rw [h'] at this
        cases this
    have h1 := z.fr b u (fun q hq e1 e2 => by
      obtain ⟨j, hj⟩ := List.mem_iff_getElem?.mp hq
      by_cases hji : j = i
      · subst hji
        rw [hi] at hj
        cases hj
        exact hba e2.symm
      · exact hb q (List.mem_iff_getElem?.mpr ⟨j, by rw [List.getElem?_set_ne (Ne.symm hji)]; exact hj⟩) e1 e2) h'
    exact f b u (fun m => by
      rcases List.mem_cons.mp m with m | m
      · exact hba m
      · cases m) h1
theorem Z.set (z : Z H0 H E) (i : Nat) {t : Nat} {a : Addr} {o : HO} (o' : HO) (hi : E[i]? = some (t, a, o)) (ht : t = 1 ∨ t = 2) : Z H0 (upd H a o') (E.set i (t, a, o')) :=
  z.move i hi ht upd_same fun b u hb h => by
    rw [upd_ne (fun e => hb (by rw [e]; exact List.mem_cons_self))]
    exact h
theorem Z.same (z : Z H0 H E) (f : Fr [] H H') : Z H0 H' E := ⟨z.nd, fun q hq => f _ _ (fun m => nomatch m) (z.at_ q hq), z.fresh, fun a o ha h => f _ _ (fun m => nomatch m) (z.fr a o ha h)⟩
/-- what came new -/
theorem Z.adds (z : Z H0 H' E) {N : List (Addr × HO)} (n : HL H' N) (h0 : ∀ q ∈ N, H0 q.1 = Option.none) (hd : ∀ q ∈ N, ∀ e ∈ E, e.2.1 ≠ q.1) : Z H0 H' (N.map (fun q => ((2, q.1, q.2) : En)) ++ E) := by
  refine ⟨?_, fun q hq => ?_, fun q hq e => ?_, fun b u hb h' => ?_⟩
  · rw [List.map_append, List.nodup_append]
    refine ⟨?_, z.nd, fun x hx y hy e => ?_⟩
    · have e : (N.map (fun q => ((2, q.1, q.2) : En))).map (·.2.1) = N.map (·.1) := by rw [List.map_map]; rfl
      rw [e]
      exact n.1
    · obtain ⟨q, hq, rfl⟩ := List.mem_map.mp hx
      obtain ⟨q', hq', rfl⟩ := List.mem_map.mp hq
      obtain ⟨r, hr, rfl⟩ := List.mem_map.mp hy
      exact hd q' hq' r hr e.symm
  · rcases List.mem_append.mp hq with hq | hq
    · obtain ⟨q', hq', rfl⟩ := List.mem_map.mp hq
      exact n.2 q' hq'
    · exact z.at_ q hq
  · rcases List.mem_append.mp hq with hq | hq
    · obtain ⟨q', hq', rfl⟩ := List.mem_map.mp hq
      exact h0 q' hq'
    · exact z.fresh q hq e
  · exact z.fr b u (fun q hq => hb q (List.mem_append_right _ hq)) h'
/-- behind a call that changes the i-th entry and makes N -/
theorem Z.call (z : Z H0 H E) (i : Nat) {t : Nat} {a : Addr} {o o' : HO} {N : List (Addr × HO)} (hi : E[i]? = some (t, a, o)) (ht : t = 1 ∨ t = 2) (ha : H' a = some o') (f : Fr [a] H H') (n : New H H' N) : Z H0 H' (N.map (fun q => ((2, q.1, q.2) : En)) ++ E.set i (t, a, o')) := by
  refine (z.move i hi ht ha f).adds n.1 (fun q hq => z.none (n.2 q hq)) fun q hq e he => ?_
  rcases mem_set_of he with rfl | ⟨j, hj, e2⟩
  · exact ne_of_none (z.at_ (t, a, o) (List.mem_of_getElem? hi)) (n.2 q hq)
  · exact ne_of_none (z.at_ _ (List.mem_of_getElem? e2)) (n.2 q hq)
/-- behind a call that makes N alone -/
theorem Z.call0 (z : Z H0 H E) {N : List (Addr × HO)} (f : Fr [] H H') (n : New H H' N) : Z H0 H' (N.map (fun q => ((2, q.1, q.2) : En)) ++ E) :=
  (z.same f).adds n.1 (fun q hq => z.none (n.2 q hq)) fun q hq e he => ne_of_none (z.at_ _ he) (n.2 q hq)
/-- entries forgotten, but those that may change -/
theorem Z.sub (z : Z H0 H E) {E' : List En} (s : E'.Sublist E) (k : ∀ q ∈ E, q.1 = 1 → q ∈ E') : Z H0 H E' :=
  ⟨(s.map _).nodup z.nd, fun q hq => z.at_ q (s.subset hq), fun q hq => z.fresh q (s.subset hq), fun a o ha h => z.fr a o (fun q hq e => ha q (k q hq e) e) h⟩
theorem Z.perm (z : Z H0 H E) {E' : List En} (s : E'.Perm E) : Z H0 H E' :=
  ⟨(s.map _).nodup_iff.mpr z.nd, fun q hq => z.at_ q (s.subset hq), fun q hq => z.fresh q (s.subset hq), fun a o ha h => z.fr a o (fun q hq e => ha q (s.symm.subset hq) e) h⟩
theorem Z.fr0 (z : Z H0 H E) (h : ∀ q ∈ E, q.1 ≠ 1) : Fr [] H0 H := fun a o _ e => z.fr a o (fun q hq e1 => absurd e1 (h q hq)) e
theorem Z.fr1 (z : Z H0 H E) {j : Addr} (h : ∀ q ∈ E, q.1 = 1 → q.2.1 = j) : Fr [j] H0 H := fun a o ha e => z.fr a o (fun q hq e1 e2 => ha (by rw [← e2, h q hq e1]; exact List.mem_cons_self)) e
theorem Z.keep (z : Z H0 H E) {a : Addr} {o : HO} (h : H0 a = some o) (n : ∀ q ∈ E, q.1 = 1 → q.2.1 ≠ a) : H a = some o := z.fr a o n h
theorem Z.comp (z : Z H0 H E) {D : Addr} {o : HO} (f : Fr [] H H') (h0 : H D = Option.none) (h1 : H' D = some o) : Z H0 H' ((2, D, o) :: E) := by
  refine z.call0 (N := [(D, o)]) f ⟨⟨List.nodup_cons.mpr ⟨(fun m => nomatch m), List.nodup_nil⟩, fun q hq => ?_⟩, fun q hq => ?_⟩
  · rcases List.mem_cons.mp hq with rfl | hq
    · exact h1
    · cases hq
  · rcases List.mem_cons.mp hq with rfl | hq
    · exact h0
    · cases hq
theorem Z.ne (z : Z H0 H E) (i j : Nat) {q r : En} (hi : E[i]? = some q) (hj : E[j]? = some r) (h : j ≠ i) : r.2.1 ≠ q.2.1 := z.other hi hj h
/-- of the new ones those by their places -/
theorem Z.made (z : Z H0 H E) {N : List (Addr × HO)} (s : (N.map (fun q => ((2, q.1, q.2) : En))).Sublist E) : New H0 H N := by
  refine ⟨⟨?_, fun q hq => z.at_ (2, q.1, q.2) (s.subset (List.mem_map.mpr ⟨q, hq, rfl⟩))⟩, fun q hq => z.fresh (2, q.1, q.2) (s.subset (List.mem_map.mpr ⟨q, hq, rfl⟩)) rfl⟩
  have := (s.map (·.2.1)).nodup z.nd
  rw [List.map_map] at this
  exact this
end
section
variable {K : PySem.W.Frag} {σ : L2.St} {H : Hp} {Q : VK} {QB : Bool → Hp → Prop} {D : Ends} {t u : TS} {ta tb tc te : TE} {tt tu : TT} {tas : TA} {v x y : V} {n i j : Int} {C : Int → Int → Prop} {g : Int → Int → V} {G : TG} {p a : Addr} {xs : List V} {r : R2}
theorem r_seq (h : t { D with nx := u D } σ H) : tSeq t u D σ H := h
theorem r_asg (h : te σ H fun x H1 => G x σ H1 D.nx) : tAsg te G D σ H := h
theorem r_ret (h : te σ H D.rt) : tRet te D σ H := h
theorem r_drop (h : te σ H fun _ H1 => D.nx σ H1) : tDrop te D σ H := h
theorem r_next (h : D.nx σ H) : tNext D σ H := h
theorem r_ifs (h : tt σ H fun b H1 => if b = true then t D σ H1 else u D σ H1) : tIfS tt t u D σ H := h
theorem r_var {k : Nat} (h : σ[k]? = some (some v)) (q : Q v H) : tVar k σ H Q := ⟨v, h, q⟩
theorem r_c (q : Q v H) : tC v σ H Q := q
theorem r_op (h : ta σ H fun x H1 => tb σ H1 fun y H2 => r x y H2 Q) : tOp r ta tb σ H Q := h
theorem r_un {r : V → Hp → VK → Prop} (h : ta σ H fun x H1 => r x H1 Q) : tUn r ta σ H Q := h
theorem r_I0 (q : Q (g i j) H) : rI0 g (.int i) (.int j) H Q := ⟨i, j, rfl, rfl, q⟩
theorem r_I (c : C i j) (q : Q (g i j) H) : rI C g (.int i) (.int j) H Q := ⟨i, j, rfl, rfl, c, q⟩
theorem r_U {g : Int → V} (q : Q (g i) H) : rU g (.int i) H Q := ⟨i, rfl, q⟩
theorem r_test (h : te σ H fun x H' => ∃ k, x = .bl k ∧ QB k H') : tTest te σ H QB := h
theorem r_B (h : te σ H fun x H' => ∃ k, x = .bl k ∧ QB k H') : tB te σ H QB := h
theorem r_and (h : tt σ H fun c H1 => if c = true then tu σ H1 QB else QB false H1) : tAnd tt tu σ H QB := h
theorem r_or (h : tt σ H fun c H1 => if c = true then QB true H1 else tu σ H1 QB) : tOr tt tu σ H QB := h
theorem r_not (h : tt σ H fun c H1 => QB (!c) H1) : tNot tt σ H QB := h
theorem r_andV (h : ta σ H fun x H1 => ∃ c, x = .bl c ∧ if c = true then tb σ H1 Q else Q (.bl false) H1) : tAndV ta tb σ H Q := h
theorem r_orV (h : ta σ H fun x H1 => ∃ c, x = .bl c ∧ if c = true then Q (.bl true) H1 else tb σ H1 Q) : tOrV ta tb σ H Q := h
theorem r_notV (h : ta σ H fun x H1 => ∃ c, x = .bl c ∧ Q (.bl (!c)) H1) : tNotV ta σ H Q := h
theorem r_exif {b : Bool} {P : Bool → Prop} (h : P b) : ∃ c, V.bl b = V.bl c ∧ P c := ⟨b, rfl, h⟩
theorem r_if (h : tt σ H fun c H1 => if c = true then ta σ H1 Q else tb σ H1 Q) : tIf tt ta tb σ H Q := h
theorem r_name {k : Nat} {R : L2.St → Hp → Prop} (h : R (σ.set k (some v)) H) : gName k v σ H R := h
theorem r_gtup {k : Nat} {T : TGs} {R : L2.St → Hp → Prop} (h : SqT K H a xs) (e : xs.length = k) (q : T xs σ H R) : gTup K k T (.ref a) σ H R := ⟨a, xs, rfl, h, e, q⟩
theorem r_gcons {T : TGs} {R : L2.St → Hp → Prop} {vs : List V} (q : G v σ H fun σ' H' => T vs σ' H' R) : gCons G T (v :: vs) σ H R := ⟨v, vs, rfl, q⟩
theorem r_gnil {R : L2.St → Hp → Prop} (q : R σ H) : gNil [] σ H R := ⟨rfl, q⟩
theorem r_gsub {T : TSet} {R : L2.St → Hp → Prop} (h : ta σ H fun o H1 => tb σ H1 fun i H2 => T o i v H2 fun H3 => R σ H3) : gSub ta tb T v σ H R := h
theorem r_setL {R : Hp → Prop} {k : Int} (h : H p = some (.lst xs)) (q : ∃ m, ixN xs.length k = some m ∧ R (upd H p (.lst (xs.set m v)))) : rSetL (.ref p) (.int k) v H R := by
  obtain ⟨m, e, q⟩ := q
  exact ⟨p, xs, k, m, rfl, rfl, h, e, q⟩
theorem r_tup (h : tas σ H fun xs H1 => xs.length ≤ sizeLine ∧ ∀ p, H1 p = none → Q (.ref p) (upd H1 p (.tup xs))) : tTup tas σ H Q := h
theorem r_lst (h : tas σ H fun xs H1 => xs.length ≤ sizeLine ∧ ∀ p, H1 p = none → Q (.ref p) (upd H1 p (.lst xs))) : tLst tas σ H Q := h
theorem r_mk {P : Prop} (e : xs.length ≤ sizeLine) (h : P) : xs.length ≤ sizeLine ∧ P := ⟨e, h⟩
theorem iteNT {A B : Prop} (h : B) : if (!true) = true then A else B := iteF h
theorem iteNF {A B : Prop} (h : A) : if (!false) = true then A else B := iteT h
theorem r_cons {R : List V → Hp → Prop} (h : ta σ H fun x H1 => tas σ H1 fun xs H2 => R (x :: xs) H2) : tCons ta tas σ H R := h
theorem r_nil {R : List V → Hp → Prop} (h : R [] H) : tNil σ H R := h
theorem r_cb {rr : List V → Hp → VK → Prop} (h : tas σ H fun vs H1 => rr vs H1 Q) : tCB rr tas σ H Q := h
theorem r_call {sp : Sp} {dvs : List V} {E : XK} (h : tas σ H fun vs H1 => sp (vs ++ dvs) H1 Q E) : tCall sp dvs E tas σ H Q := h
theorem r_ixL (h : SqL K H p xs) (q : ∃ v, atI xs i = some v ∧ Q v H) : rIxL K (.ref p) (.int i) H Q := by
  obtain ⟨v, e, q⟩ := q
  exact ⟨p, xs, i, v, rfl, rfl, h, e, q⟩
theorem r_ixT (h : SqT K H p xs) (q : ∃ v, atI xs i = some v ∧ Q v H) : rIxT K (.ref p) (.int i) H Q := by
  obtain ⟨v, e, q⟩ := q
  exact ⟨p, xs, i, v, rfl, rfl, h, e, q⟩
theorem r_at {P : V → Prop} (e : atI xs i = some v) (q : P v) : ∃ v, atI xs i = some v ∧ P v := ⟨v, e, q⟩
theorem r_ixn {k : Int} {m n : Nat} {P : Nat → Prop} (e : ixN n k = some m) (q : P m) : ∃ m, ixN n k = some m ∧ P m := ⟨m, e, q⟩
theorem r_ixSL (q : rIxL K x y H Q) : rIx K x y H Q := .inl q
theorem r_ixST (q : rIxT K x y H Q) : rIx K x y H Q := .inr (.inl q)
theorem r_exfld {Cc dx : Addr} {fs : List (Str × V)} {f : Str} {P : V → Prop} (h : H a = some (.ins Cc dx fs)) (c : Cls K Cc) (n : NoAttr K Cc f) (l : fs.lookup f = some v) (q : P v) :
    ∃ b C dx fs v, V.ref a = .ref b ∧ H b = some (.ins C dx fs) ∧ Cls K C ∧ NoAttr K C f ∧ fs.lookup f = some v ∧ P v := ⟨a, Cc, dx, fs, v, rfl, h, c, n, l, q⟩
theorem r_exsfld {Cc dx : Addr} {fs : List (Str × V)} {f : Str} {P : Addr → Addr → Addr → List (Str × V) → Prop} (h : H a = some (.ins Cc dx fs)) (c : Cls K Cc) (n : NoAttr K Cc f) (l : fs.length < 1000) (q : P a Cc dx fs) :
    ∃ b C dx fs, V.ref a = .ref b ∧ H b = some (.ins C dx fs) ∧ Cls K C ∧ NoAttr K C f ∧ fs.length < 1000 ∧ P b C dx fs := ⟨a, Cc, dx, fs, rfl, h, c, n, l, q⟩
theorem r_sfld {f : Str} (h : te σ H fun y H1 => ta σ H1 fun x H2 => ∃ a C dx fs, x = .ref a ∧ H2 a = some (.ins C dx fs) ∧ Cls K C ∧ NoAttr K C f ∧ fs.length < 1000 ∧ D.nx σ (upd H2 a (.ins C dx (putF f y fs)))) : sFld K ta te f D σ H := h
theorem r_fld {f : Str} (h : ta σ H fun x H1 => ∃ a C dx fs v, x = .ref a ∧ H1 a = some (.ins C dx fs) ∧ Cls K C ∧ NoAttr K C f ∧ fs.lookup f = some v ∧ Q v H1) : tFld K ta f σ H Q := h
theorem r_bm {T : String} {rr : V → List V → Hp → VK → Prop} (h : ta σ H fun x H1 => tyV K T x H1 ∧ tas σ H1 fun xs H2 => rr x xs H2 Q) : tBM K T rr ta tas σ H Q := h
theorem r_app (h : H p = some (.lst xs)) (e : xs.length < sizeLine) (q : Q .non (upd H p (.lst (xs ++ [y])))) : rAppend (.ref p) [y] H Q := ⟨p, xs, y, rfl, rfl, h, e, q⟩
theorem r_tyL {P : Prop} (h : H p = some (.lst xs)) (q : P) : tyV K "list" (.ref p) H ∧ P := ⟨.inl ⟨rfl, _, SqL.of h⟩, q⟩
theorem r_sl {rr : V → Option Int → Option Int → Hp → VK → Prop} {tl th : TO} (h : te σ H fun x H1 => tl σ H1 fun l H2 => th σ H2 fun u H3 => rr x l u H3 Q) : tSl rr te tl th σ H Q := h
theorem r_part {R : Option Int → Hp → Prop} (h : te σ H fun x H1 => ∃ i, x = .int i ∧ R (some i) H1) : tPart te σ H R := h
theorem r_exint {R : Int → Prop} (h : R i) : ∃ k, V.int i = V.int k ∧ R k := ⟨i, rfl, h⟩
theorem r_nopart {R : Option Int → Hp → Prop} (h : R none H) : tNoPart σ H R := h
theorem r_slL {lo hi : Option Int} (h : SqL K H a xs) (q : ∀ p, H p = none → Q (.ref p) (upd H p (.lst (cutV xs lo hi)))) : rSlL K (.ref a) lo hi H Q := ⟨a, xs, rfl, h, q⟩
theorem r_revL (h : te σ H fun x H1 => ∃ a xs, x = .ref a ∧ SqL K H1 a xs ∧ ∀ p, H1 p = none → Q (.ref p) (upd H1 p (.lst xs.reverse))) : tRevL K te σ H Q := h
theorem r_exrev {P : List V → Prop} (h : SqL K H a xs) (q : P xs) : ∃ b ys, V.ref a = .ref b ∧ SqL K H b ys ∧ P ys := ⟨a, xs, rfl, h, q⟩
theorem r_cat {l b : Addr} {zs : List V} (h1 : H l = some (.lst xs)) (h2 : H b = some (.lst zs)) (e : xs.length + zs.length ≤ sizeLine) (q : ∀ p, H p = none → Q (.ref p) (upd H p (.lst (xs ++ zs)))) : rCat (.ref l) (.ref b) H Q := ⟨l, b, xs, zs, rfl, rfl, h1, h2, e, q⟩
theorem r_eq (h : scal x y = true) (q : Q (.bl (decide (x = y))) H) : rEq x y H Q := ⟨h, q⟩
theorem r_ne (h : scal x y = true) (q : Q (.bl (!decide (x = y))) H) : rNe x y H Q := ⟨h, q⟩
theorem r_chain {r' : R2} (h : ta σ H fun x H1 => tb σ H1 fun y H2 => r x y H2 fun z H3 => ∃ k, z = .bl k ∧ (if k = true then tc σ H3 fun w' H4 => r' y w' H4 Q else Q (.bl false) H3)) : tChain r r' ta tb tc σ H Q := h
theorem r_ite {c A B : Prop} [Decidable c] (h1 : c → A) (h2 : ¬ c → B) : if decide c = true then A else B := ite2 (fun z => h1 (of_decide_eq_true z)) fun z => h2 fun y => z (decide_eq_true y)
theorem r_par {k l : Nat} (h : tas σ H fun vs H1 => ∃ v w, vs = [v, w] ∧ D.nx ((σ.set k (some v)).set l (some w)) H1) : tPar k l tas D σ H := h
theorem r_expar {R : V → V → Prop} (h : R x y) : ∃ v w, [x, y] = [v, w] ∧ R v w := ⟨x, y, rfl, h⟩
def ForJ (G : TG) (tb : TS) (D : Ends) (σ : L2.St) (J : It) (H1 : Hp) : Prop := ∃ W : Nat → Nat → L2.St → Hp → Prop, (∃ m, W 0 m σ H1) ∧ ∀ i m σ H, W i m σ H →
  (J.stop i H ∧ D.nx σ H) ∨ (J.go i H ∧ ∃ N : L2.St → Hp → Prop, (∀ σ' H', N σ' H' → ∃ m', m' < m ∧ W (i + 1) m' σ' H') ∧ ∀ x H', J.yld i H x H' → G x σ H' fun σ2 H2 => tb { D with nx := N, ct := N, bk := D.nx } σ2 H2)
theorem r_for {wi : TI} {tb : TS} (h : wi σ H (ForJ G tb D σ)) : tFor wi G tb D σ H := h
def LcJ (G : TG) (tt : TT) (te : TE) (vs : List Nat) (σ : L2.St) (Q : VK) (J : It) (H1 : Hp) : Prop := ∀ D, H1 D = none → ∃ W : Nat → Nat → Hp → Prop, (∃ m, W 0 m (upd H1 D (.lst []))) ∧ ∀ i m H, W i m H →
  (J.stop i H ∧ Q (.ref D) H) ∨ (J.go i H ∧ ∃ Nx : Hp → Prop, (∀ H', Nx H' → ∃ m', m' < m ∧ W (i + 1) m' H') ∧ ∀ x H', J.yld i H x H' → G x (wipe σ vs) H' fun σ2 H2 => wipe σ2 vs = wipe σ vs ∧ tt σ2 H2 fun b H3 =>
    if b = true then te σ2 H3 fun y H4 => ∃ acc, H4 D = some (.lst acc) ∧ acc.length < sizeLine ∧ Nx (upd H4 D (.lst (acc ++ [y]))) else Nx H3)
theorem r_lc {wi : TI} {vs : List Nat} (h : wi σ H (LcJ G tt te vs σ Q)) : tLc wi G tt te vs σ H Q := h
theorem r_ilist {R : It → Hp → Prop} (h : te σ H fun x H1 => ∃ a, x = .ref a ∧ (∃ xs, SqL K H1 a xs) ∧ R (Itl K a) H1) : iList K te σ H R := h
theorem r_exil {P : Addr → Prop} (hs : SqL K H a xs) (h : P a) : ∃ b, V.ref a = .ref b ∧ (∃ xs, SqL K H b xs) ∧ P b := ⟨a, rfl, ⟨xs, hs⟩, h⟩
theorem r_itup {R : It → Hp → Prop} (h : te σ H fun x H1 => ∃ a, x = .ref a ∧ (∃ xs, SqT K H1 a xs) ∧ R (Itt K a) H1) : iTup K te σ H R := h
theorem r_exit {P : Addr → Prop} (hs : SqT K H a xs) (h : P a) : ∃ b, V.ref a = .ref b ∧ (∃ xs, SqT K H b xs) ∧ P b := ⟨a, rfl, ⟨xs, hs⟩, h⟩
theorem r_irng1 {R : It → Hp → Prop} (h : tas σ H fun vs H1 => ∃ j : Int, vs = [.int j] ∧ -(2 ^ 62) ≤ j ∧ j < 2 ^ 62 ∧ R (Itr 0 j.toNat) H1) : iRng1 tas σ H R := h
theorem r_irng2 {R : It → Hp → Prop} (h : tas σ H fun vs H1 => ∃ i j : Int, vs = [.int i, .int j] ∧ (-(2 ^ 62) ≤ i ∧ i < 2 ^ 62 ∧ -(2 ^ 62) ≤ j ∧ j < 2 ^ 62) ∧ R (Itr i (j - i).toNat) H1) : iRng2 tas σ H R := h
theorem r_irng3 {R : It → Hp → Prop} (h : tas σ H fun vs H1 => ∃ (i j c : Int) (n : Nat), vs = [.int i, .int j, .int c] ∧ RgC i j c n ∧ R (Itc i c n) H1) : iRng3 tas σ H R := h
theorem r_izip {R : It → Hp → Prop} (h : tas σ H fun vs H1 => ∃ a b xs ys, vs = [.ref a, .ref b] ∧ SqL K H1 a xs ∧ SqL K H1 b ys ∧ R (Itz K a b) H1) : iZip K tas σ H R := h
theorem r_exz {P : Addr → Addr → Prop} {b : Addr} {ys : List V} (h1 : SqL K H a xs) (h2 : SqL K H b ys) (h : P a b) : ∃ c d xs ys, [V.ref a, V.ref b] = [.ref c, .ref d] ∧ SqL K H c xs ∧ SqL K H d ys ∧ P c d := ⟨a, b, xs, ys, rfl, h1, h2, h⟩
theorem r_ienum {R : It → Hp → Prop} (h : tas σ H fun vs H1 => ∃ a xs, vs = [.ref a] ∧ SqL K H1 a xs ∧ R (Ite K a) H1) : iEnum K tas σ H R := h
theorem r_exen {P : Addr → Prop} (h1 : SqL K H a xs) (h : P a) : ∃ c xs, [V.ref a] = [.ref c] ∧ SqL K H c xs ∧ P c := ⟨a, xs, rfl, h1, h⟩
theorem r_yes (h : QB true H) : tYes σ H QB := h
theorem r_len {P : List V → Prop} (h : SqL K H p xs) (q : P xs) : ∃ r ys, [V.ref p] = [.ref r] ∧ (SqL K H r ys ∨ SqT K H r ys) ∧ P ys := ⟨p, xs, rfl, .inl h, q⟩
theorem r_lenT {P : List V → Prop} (h : SqT K H p xs) (q : P xs) : ∃ r ys, [V.ref p] = [.ref r] ∧ (SqL K H r ys ∨ SqT K H r ys) ∧ P ys := ⟨p, xs, rfl, .inr h, q⟩
theorem r_int1 {P : Int → Prop} {P' : Prop} (q : P i) : (∃ k, [V.int i] = [.int k] ∧ P k) ∨ P' := .inl ⟨i, rfl, q⟩
theorem r_int2 {P : Int → Prop} (q : P i) : ∃ k, [V.int i] = [.int k] ∧ P k := ⟨i, rfl, q⟩
theorem r_int3 {P : Int → Int → Prop} (q : P i j) : ∃ k l, [V.int i, V.int j] = [.int k, .int l] ∧ P k l := ⟨i, j, rfl, q⟩
theorem r_all {bs : List Bool} (h : SqL K H p (bs.map V.bl)) (q : Q (.bl (bs.all id)) H) : rAll K [.ref p] H Q := ⟨p, bs, rfl, h, q⟩
theorem r_allB {bs : List Bool} {b : Bool} (h : SqL K H p (bs.map V.bl)) (e : bs.all id = b) (q : Q (.bl b) H) : rAll K [.ref p] H Q := ⟨p, bs, rfl, h, by rw [e]; exact q⟩
theorem r_anyB {bs : List Bool} {b : Bool} (h : SqL K H p (bs.map V.bl)) (e : bs.any id = b) (q : Q (.bl b) H) : rAny K [.ref p] H Q := ⟨p, bs, rfl, h, by rw [e]; exact q⟩
theorem r_isi {b : Bool} {t u : Value} {c : V} (h1 : ClsV c u) (h2 : TyX K H x t) (h3 : PySem.W.kitOne K t u = some b) (q : Q (.bl b) H) : rIsi K [x, c] H Q := ⟨x, c, t, u, b, rfl, h1, h2, h3, q⟩
theorem r_make {sp : Sp} {dvs : List V} {E : XK} {Cc : Addr} (h : tas σ H fun vs H1 => ∀ x dx, H1 x = none → H1 dx = none → dx ≠ x → sp (.ref x :: (vs ++ dvs)) (upd (upd H1 dx (.own x)) x (.ins Cc dx [])) (fun v H2 => v = .non ∧ Q (.ref x) H2) E) : tMake Cc sp dvs E tas σ H Q := h
theorem r_meth {sp : Sp} {dvs : List V} {E : XK} {Cc : Addr} {m : Str} (h : ta σ H fun x H1 => ∃ a dx fs, x = .ref a ∧ H1 a = some (.ins Cc dx fs) ∧ fs.lookup m = none ∧ tas σ H1 fun vs H2 => sp (x :: (vs ++ dvs)) H2 Q E) : tMeth Cc m sp dvs E ta tas σ H Q := h
theorem r_prop {sp : Sp} {dvs : List V} {E : XK} {Cc : Addr} (h : ta σ H fun x H1 => ∃ a dx fs, x = .ref a ∧ H1 a = some (.ins Cc dx fs) ∧ sp (.ref a :: dvs) H1 Q E) : tProp Cc sp dvs E ta σ H Q := h
end
abbrev rLenX (K : PySem.W.Frag) : List V → Hp → VK → Prop := fun xs H Q => ∃ p ys, xs = [.ref p] ∧ (SqL K H p ys ∨ SqT K H p ys) ∧ Q (.int ys.length) H
abbrev rListX (K : PySem.W.Frag) : List V → Hp → VK → Prop := fun xs H Q => ∃ p ys, xs = [.ref p] ∧ (SqL K H p ys ∨ SqT K H p ys) ∧ ∀ l, H l = none → Q (.ref l) (upd H l (.lst ys))
abbrev rMin2X : List V → Hp → VK → Prop := fun xs H Q => ∃ i j, xs = [.int i, .int j] ∧ Q (.int (if j < i then j else i)) H
section
variable {X : Cx}
/-- x ** n of any size below 2 ^ 27 bits -/
def CPowW (i j : Int) : Prop := 0 ≤ j ∧ (Builtin.Int.intBits i : Int) * j ≤ 2 ^ 27
theorem op_powW : OpR X (binaryOp .Pow) (rI CPowW fun i j => .int (i ^ j.toNat)) := opI fun _ _ _ _ _ _ _ hc q => pow_int hc.1 hc.2 q
theorem powW {i j : Int} {b : Nat} (h0 : 0 ≤ j) (hj : j ≤ 100) (hb : i.natAbs < 2 ^ b) (h : b ≤ 1000000) (h1 : 0 < b) : CPowW i j := by
  refine ⟨h0, ?_⟩
  have h2 : Builtin.Int.intBits i ≤ b := by
    unfold Builtin.Int.intBits
    have := PySem.Flt.log2_lt_of h1 hb
    split <;> omega
  have h3 : (Builtin.Int.intBits i : Int) ≤ 1000000 := by omega
  have h4 : (Builtin.Int.intBits i : Int) * j ≤ 1000000 * 100 := Int.mul_le_mul h3 hj h0 (by decide)
  omega
theorem pow10 {j : Int} (h : 0 ≤ j ∧ j ≤ 100) : CPowW 10 j := powW (b := 4) h.1 h.2 (by decide) (by decide) (by decide)
theorem natAbs_lt {x : Int} {n : Nat} (h0 : -(2 ^ n) < x) (h : x < 2 ^ n) : x.natAbs < 2 ^ n := by
  have e : ((2 ^ n : Nat) : Int) = (2 : Int) ^ n := by simp
  omega
end
theorem smalllt' {n : Nat} (h : n ≤ 99999) : n < PySem.sizeLine := Nat.lt_of_lt_of_le (show n < 100000 by omega) (by decide)
theorem small1000' {n : Nat} (h : n ≤ 100000) : n ≤ PySem.sizeLine := Nat.le_trans h (by decide)
set_option Elab.async false
set_option linter.all false
set_option maxRecDepth 100000
set_option maxHeartbeats 4000000
def propB (K : PySem.W.Frag) (C : Addr) (f : Str) : Bool := match PySem.W.findIn K (.ref C) f with
  | some (some (.ref p)) => He.eqO (PySem.W.specialIn K (.ref p) "__get__") (some (some (.builtin "property.__get__"))) && (decide (PySem.W.takesIn K (.ref p) = some true) && (match PySem.W.recIn K p "property" with
    | some (.ref _ :: _) => true
    | _ => false))
  | _ => false
/-- the getter of a property -/
def pgA (C f : Str) (K : PySem.W.Frag) : Addr := match PySem.W.findIn K (.ref (He.ga K C)) f with
  | some (some (.ref p)) => (match PySem.W.recIn K p "property" with
    | some (.ref g :: _) => g
    | _ => 0)
  | _ => 0
theorem propB_ok {K : PySem.W.Frag} {C f : Str} (h : propB K (He.ga K C) f = true) : ∃ p, PropOf K (He.ga K C) f p (pgA C f K) := by
  unfold propB at h
  unfold pgA
  cases e : PySem.W.findIn K (.ref (He.ga K C)) f with
  | none =>
    rw [e] at h
    cases h
  | some r =>
    cases r with
    | none =>
      rw [e] at h
      cases h
    | some u =>
      cases u with
      | ref p =>
        rw [e] at h
        dsimp only at h ⊢
        obtain ⟨h1, h2⟩ := He.ba h
        obtain ⟨h3, h4⟩ := He.ba h2
        cases e2 : PySem.W.recIn K p "property" with
        | none =>
          rw [e2] at h4
          cases h4
        | some l =>
          rw [e2] at h4
          cases l with
          | nil => cases h4
          | cons g r =>
            cases g with
            | ref g => exact ⟨p, e, He.eqO_ok h1, of_decide_eq_true h3, r, e2⟩
            | _ => cases h4
      | _ =>
        rw [e] at h
        cases h
inductive Fb where
  | b (f : He.Fa)
  | prop (C f : Str)
  | findB (C m : Str) (id : String)
  | isi (C : Str)
  | kit (C D : Str) (r : Bool)
  | tyc (C : Str)
def Fb.ok (K : PySem.W.Frag) : Fb → Bool
  | .b f => f.ok K
  | .prop C f => propB K (He.ga K C) f
  | .findB C m id => He.eqO (PySem.W.findIn K (.ref (He.ga K C)) m) (some (some (.builtin id)))
  | .isi C => He.eqO (PySem.W.findIn K (.ref (He.ga K C)) "__class__") (some (some (.builtin "object.__class__"))) && (He.eqO (PySem.W.specialIn K (.builtin "object.__class__") "__get__") (some (some (.builtin "getset_descriptor.__get__"))) &&
      (decide (PySem.W.takesIn K (.builtin "object.__class__") = some true) && decide (PySem.W.mroIn K (He.ga K C) (.type "object") = some true)))
  | .kit C D r => decide (PySem.W.kitOne K (.ref (He.ga K C)) (.ref (He.ga K D)) = some r)
  | .tyc C => (PySem.W.clsIn K (He.ga K C)).isSome && decide (PySem.W.typeIn K (.ref (He.ga K C)) = some (.type "type"))
/-- a def: its address by names -/
structure Df where
  at_ : PySem.W.Frag → Addr
  name : Str
  qual : Str
  st : Stmt
def Df.da (d : Df) : He5.DefA := ⟨d.at_, d.name, d.qual, defArgs d.st, defBody d.st, defScope d.st, [], []⟩
def obsM (fa : List Fb) (fn : List Df) (K : PySem.W.Frag) : He.AlD := ((fa.all fun f => f.ok K) && fn.all fun d => d.da.ok K, fn.map fun d => He5.fnA K (d.at_ K))
def valM (fn : List Df) : He.AlD := (true, fn.map fun d => d.da.val)
def SaysM (fa : List Fb) (fn : List Df) (K : PySem.W.Frag) : Prop := obsM fa fn K = valM fn
def obsMG (n : Nat) (fa : List Fb) (fn : List Df) (g : Addr → Option Obj) : He.AlD := obsM fa fn (He.frG g (He5.asA g n))
def hookM (n : Nat) (fa : List Fb) (fn : List Df) : PySem.W.Hook where
  α := He.AlD
  obs := fun s => obsMG n fa fn s.heap.get?
  val := fun _ => valM fn
  says := fun _ h => ∃ K : PySem.W.Frag, K.In h ∧ SaysM fa fn K
  of := fun _ _ e => ⟨_, He.frG_in, e⟩
  keeps := fun _ _ _ ⟨K, hK, c⟩ k => ⟨K, PySem.W.Frag.In.keeps hK k, c⟩
theorem obsMG_eq {n : Nat} {fa : List Fb} {fn : List Df} {g : Addr → Option Obj} {s : Shared} (h : ∀ a, g a = s.heap.get? a) : obsMG n fa fn g = (hookM n fa fn).obs s := by
  have e : g = s.heap.get? := funext h
  rw [e] <;> rfl
/-- the top's facts, the base heap -/
structure Tx (fa : List Fb) (fn : List Df) (K : PySem.W.Frag) (mg : Str → Option Value) (base : Heap) : Prop where
  says : SaysM fa fn K
  kin : K.In base
  ns : base.Ns mainGlobals mg
section
variable {fa : List Fb} {fn : List Df} {K : PySem.W.Frag} {mg : Str → Option Value} {base : Heap} {P : Program} {w : World}
theorem Tx.fact (T : Tx fa fn K mg base) (i : Nat) {f : Fb} (h : fa[i]? = some f := by rfl) : f.ok K = true := by
  have c1 := (He.ba (show ((fa.all fun f => f.ok K) && fn.all fun d => d.da.ok K) = true from congrArg (fun z : He.AlD => z.1) T.says)).1
  exact List.all_eq_true.mp c1 f (List.mem_of_getElem? h)
theorem Tx.def_ (T : Tx fa fn K mg base) (i : Nat) {d : Df} (h : fn[i]? = some d := by rfl) : ∃ fd, FunD K d.name d.qual (defArgs d.st) (defBody d.st) (defScope d.st) [] [] (d.at_ K) fd := by
  have c2 := (He.ba (show ((fa.all fun f => f.ok K) && fn.all fun d => d.da.ok K) = true from congrArg (fun z : He.AlD => z.1) T.says)).2
  have e : fn.map (fun d => He5.fnA K (d.at_ K)) = fn.map (fun d => d.da.val) := congrArg (fun z : He.AlD => z.2) T.says
  have e2 : (fn.map fun d => He5.fnA K (d.at_ K))[i]? = (fn.map fun d => d.da.val)[i]? := by rw [e]
  rw [List.getElem?_map, List.getElem?_map, h] at e2
  exact He5.DefA.funD (d := d.da) (Option.some.inj e2) (List.all_eq_true.mp c2 d (List.mem_of_getElem? h))
theorem Tx.fr (T : Tx fa fn K mg base) (i : Nat) {x : Str} (h : fa[i]? = some (.b (.free x)) := by rfl) : mg x = none := He.free_ok T.kin T.ns (T.fact i h)
theorem Tx.glo (T : Tx fa fn K mg base) (i : Nat) {x : Str} (h : fa[i]? = some (.b (.glo x)) := by rfl) : mg x = some (.ref (He.ga K x)) := He.glo_ok T.kin T.ns (T.fact i h)
theorem Tx.int (T : Tx fa fn K mg base) (i : Nat) {x : Str} {n : Int} (h : fa[i]? = some (.b (.int x n)) := by rfl) : ∃ t, mg x = some (.int n t) := He.int_ok T.kin T.ns (T.fact i h)
theorem Tx.cls (T : Tx fa fn K mg base) (i : Nat) {x : Str} (h : fa[i]? = some (.b (.cls x)) := by rfl) : Cls K (He.ga K x) := He.cls_ok (T.fact i h)
theorem Tx.noat (T : Tx fa fn K mg base) (i : Nat) {x f : Str} (h : fa[i]? = some (.b (.noat x f)) := by rfl) : NoAttr K (He.ga K x) f := He.noat_ok (T.fact i h)
theorem Tx.meth (T : Tx fa fn K mg base) (i : Nat) {x m : Str} (h : fa[i]? = some (.b (.meth x m)) := by rfl) : Meth K (He.ga K x) m (He.ma K (He.ga K x) m) := He.meth_ok (T.fact i h)
theorem Tx.mkr (T : Tx fa fn K mg base) (i : Nat) {x : Str} (h : fa[i]? = some (.b (.mkr x)) := by rfl) : Mk K (He.ga K x) (He.ma K (He.ga K x) "__init__") := He.mkr_ok (T.fact i h)
theorem Tx.prop (T : Tx fa fn K mg base) (i : Nat) {C f : Str} (h : fa[i]? = some (.prop C f) := by rfl) : ∃ p, PropOf K (He.ga K C) f p (pgA C f K) := propB_ok (T.fact i h)
theorem Tx.findB (T : Tx fa fn K mg base) (i : Nat) {C m : Str} {id : String} (h : fa[i]? = some (.findB C m id) := by rfl) : PySem.W.findIn K (.ref (He.ga K C)) m = some (some (.builtin id)) := He.eqO_ok (T.fact i h)
theorem Tx.kit (T : Tx fa fn K mg base) (i : Nat) {C D : Str} {r : Bool} (h : fa[i]? = some (.kit C D r) := by rfl) : PySem.W.kitOne K (.ref (He.ga K C)) (.ref (He.ga K D)) = some r := of_decide_eq_true (T.fact i h)
theorem Tx.isi (T : Tx fa fn K mg base) (i j : Nat) {C : Str} {H : Hp} {a dx : Addr} {fs : List (Str × V)} (e : H a = some (.ins (He.ga K C) dx fs)) (h : fa[i]? = some (.isi C) := by rfl) (hj : fa[j]? = some (.b (.cls C)) := by rfl) : TyX K H (.ref a) (.ref (He.ga K C)) := by
  obtain ⟨h1, h2⟩ := He.ba (T.fact i h)
  obtain ⟨h3, h4⟩ := He.ba h2
  obtain ⟨h5, h6⟩ := He.ba h4
  exact .base (.ins e (T.cls j hj) (He.eqO_ok h1) (He.eqO_ok h3) (of_decide_eq_true h5) (of_decide_eq_true h6))
theorem Tx.tyc (T : Tx fa fn K mg base) (i : Nat) {C : Str} {t : Value} {r : Bool} (n : (t == .ref (He.ga K C)) = false) (e : PySem.W.subIn K t (.ref (He.ga K C)) = some r) (h : fa[i]? = some (.tyc C) := by rfl) : PySem.W.kitOne K t (.ref (He.ga K C)) = some r := by
  obtain ⟨h1, h2⟩ := He.ba (T.fact i h)
  have h3 := of_decide_eq_true h2
  unfold PySem.W.kitOne
  rw [n, if_neg (by decide)]
  unfold PySem.W.kitCls
  dsimp only
  rw [h1, h3, if_pos (by decide)]
  exact e
theorem Tx.mroI (T : Tx fa fn K mg base) (i : Nat) {C : Str} (h : fa[i]? = some (.isi C) := by rfl) : PySem.W.mroIn K (He.ga K C) (.type "object") = some true := by
  obtain ⟨_, h2⟩ := He.ba (T.fact i h)
  obtain ⟨_, h4⟩ := He.ba h2
  obtain ⟨_, h6⟩ := He.ba h4
  exact of_decide_eq_true h6
structure Fk (P : Program) (w : World) (K : PySem.W.Frag) (mg : Str → Option Value) (base : Heap) (x : Str) (ps : List Str) (k : Nat) (sp : Sp) (st : Stmt) (q : Str) : Prop where
  ex : ∃ (f : Addr) (fd : FuncData), FnOk P w K mg base CX0 k f fd ps sp ∧ mg x = some (.ref f) ∧ PySem.W.keepIn K (.ref f) = true ∧ Binds K fd ps [] ∧ FunD K x q (defArgs st) (defBody st) (defScope st) [] [] f fd
structure Mth (P : Program) (w : World) (K : PySem.W.Frag) (mg : Str → Option Value) (base : Heap) (C : Addr) (m : Str) (ps : List Str) (k : Nat) (sp : Sp) (st : Stmt) (q : Str) : Prop where
  ex : ∃ (f : Addr) (fd : FuncData), FnOk P w K mg base CX0 k f fd ps sp ∧ Meth K C m f ∧ Binds K fd ps [] ∧ Cls K C ∧ FunD K m q (defArgs st) (defBody st) (defScope st) [] [] f fd
structure Ini (P : Program) (w : World) (K : PySem.W.Frag) (mg : Str → Option Value) (base : Heap) (C : Addr) (ps : List Str) (k : Nat) (sp : Sp) (st : Stmt) (q : Str) : Prop where
  ex : ∃ (f : Addr) (fd : FuncData), FnOk P w K mg base CX0 k f fd ps sp ∧ Mk K C f ∧ Binds K fd ps [] ∧ FunD K "__init__" q (defArgs st) (defBody st) (defScope st) [] [] f fd
structure Prp (P : Program) (w : World) (K : PySem.W.Frag) (mg : Str → Option Value) (base : Heap) (C : Addr) (x : Str) (k : Nat) (sp : Sp) : Prop where
  ex : ∃ (p g : Addr) (fd : FuncData), FnOk P w K mg base CX0 k g fd ["self"] sp ∧ PropOf K C x p g ∧ Binds K fd ["self"] [] ∧ Cls K C
/-- what a def's proof is made of -/
def BndOk (d : Df) (ps : List Str) : Prop := ∀ (kV doc pm : Value) (an : Option Addr) (cdv ct : Value) (us : List Value), us.length = ps.length → bindArgs (PySem.W.fnOf d.name d.qual (defArgs d.st) (defBody d.st) (defScope d.st) .none kV doc pm an cdv ct) ⟨us, []⟩ = pure (ps.zip us)
def BodyOk (P : Program) (w : World) (K : PySem.W.Frag) (mg : Str → Option Value) (base : Heap) (d : Df) (N : List Str) (k : Nat) (sp : Sp) : Prop :=
  ∀ (cdv : Value) (A : Around) (outer : List Env) (s : Shared) (H : Hp) (vs : List V) (Q : VK) (E : XK), Room k (A.deeper (envOfC d.qual (defScope d.st) s.heap.objs.size (d.at_ K) cdv)) → sp vs H Q E →
      ∃ t, PSs (cxOf CX0 P w K mg base N d.qual (defScope d.st) (d.at_ K) cdv A outer s H E).nox (defBody d.st) t ∧ t { nx := fun _ H' => Q .non H', rt := Q } (start N vs) H
theorem Tx.ok (T : Tx fa fn K mg base) (i : Nat) {d : Df} {N ps : List Str} {k : Nat} {sp : Sp} (S : FnScope N ps (defScope d.st)) (hb : BndOk d ps) (len : ∀ vs H Q E, sp vs H Q E → vs.length = ps.length) (body : BodyOk P w K mg base d N k sp) (hd : fn[i]? = some d := by rfl) :
    ∃ fd, FnOk P w K mg base CX0 (k + 1) (d.at_ K) fd ps sp ∧ PySem.W.keepIn K (.ref (d.at_ K)) = true ∧ Binds K fd ps [] ∧ FunD K d.name d.qual (defArgs d.st) (defBody d.st) (defScope d.st) [] [] (d.at_ K) fd := by
  obtain ⟨fd, F⟩ := T.def_ i hd
  refine ⟨fd, F.ok S len fun cdv A outer s H vs Q E hr h => ?_, F.kp, F.bindsN hb, F⟩
  obtain ⟨t, h1, h2⟩ := body cdv A outer s H vs Q E hr h
  exact ⟨t, PSs.nox h1, h2⟩
theorem Tx.fk (T : Tx fa fn K mg base) (i j : Nat) {x q : Str} {st : Stmt} {N ps : List Str} {k : Nat} {sp : Sp} (S : FnScope N ps (defScope st)) (hb : BndOk ⟨fun K => He.ga K x, x, q, st⟩ ps) (len : ∀ vs H Q E, sp vs H Q E → vs.length = ps.length)
    (body : BodyOk P w K mg base ⟨fun K => He.ga K x, x, q, st⟩ N k sp) (hd : fn[i]? = some ⟨fun K => He.ga K x, x, q, st⟩ := by rfl) (hg : fa[j]? = some (.b (.glo x)) := by rfl) : Fk P w K mg base x ps (k + 1) sp st q := by
  obtain ⟨fd, F, kp, b, fu⟩ := T.ok i (d := ⟨fun K => He.ga K x, x, q, st⟩) S hb len body hd
  exact ⟨_, fd, F, T.glo j hg, kp, b, fu⟩
theorem Tx.mth (T : Tx fa fn K mg base) (i j c : Nat) {C m q : Str} {st : Stmt} {N ps : List Str} {k : Nat} {sp : Sp} (S : FnScope N ps (defScope st)) (hb : BndOk ⟨fun K => He.ma K (He.ga K C) m, m, q, st⟩ ps) (len : ∀ vs H Q E, sp vs H Q E → vs.length = ps.length)
    (body : BodyOk P w K mg base ⟨fun K => He.ma K (He.ga K C) m, m, q, st⟩ N k sp) (hd : fn[i]? = some ⟨fun K => He.ma K (He.ga K C) m, m, q, st⟩ := by rfl) (hg : fa[j]? = some (.b (.meth C m)) := by rfl) (hc : fa[c]? = some (.b (.cls C)) := by rfl) : Mth P w K mg base (He.ga K C) m ps (k + 1) sp st q := by
  obtain ⟨fd, F, kp, b, fu⟩ := T.ok i (d := ⟨fun K => He.ma K (He.ga K C) m, m, q, st⟩) S hb len body hd
  exact ⟨_, fd, F, T.meth j hg, b, T.cls c hc, fu⟩
theorem Tx.ini (T : Tx fa fn K mg base) (i j : Nat) {C q : Str} {st : Stmt} {N ps : List Str} {k : Nat} {sp : Sp} (S : FnScope N ps (defScope st)) (hb : BndOk ⟨fun K => He.ma K (He.ga K C) "__init__", "__init__", q, st⟩ ps) (len : ∀ vs H Q E, sp vs H Q E → vs.length = ps.length)
    (body : BodyOk P w K mg base ⟨fun K => He.ma K (He.ga K C) "__init__", "__init__", q, st⟩ N k sp) (hd : fn[i]? = some ⟨fun K => He.ma K (He.ga K C) "__init__", "__init__", q, st⟩ := by rfl) (hg : fa[j]? = some (.b (.mkr C)) := by rfl) : Ini P w K mg base (He.ga K C) ps (k + 1) sp st q := by
  obtain ⟨fd, F, kp, b, fu⟩ := T.ok i (d := ⟨fun K => He.ma K (He.ga K C) "__init__", "__init__", q, st⟩) S hb len body hd
  exact ⟨_, fd, F, T.mkr j hg, b, fu⟩
theorem Tx.prp (T : Tx fa fn K mg base) (i j c : Nat) {C m q : Str} {st : Stmt} {N : List Str} {k : Nat} {sp : Sp} (S : FnScope N ["self"] (defScope st)) (hb : BndOk ⟨pgA C m, m, q, st⟩ ["self"]) (len : ∀ vs H Q E, sp vs H Q E → vs.length = ["self"].length)
    (body : BodyOk P w K mg base ⟨pgA C m, m, q, st⟩ N k sp) (hd : fn[i]? = some ⟨pgA C m, m, q, st⟩ := by rfl) (hg : fa[j]? = some (.prop C m) := by rfl) (hc : fa[c]? = some (.b (.cls C)) := by rfl) : Prp P w K mg base (He.ga K C) m (k + 1) sp := by
  obtain ⟨fd, F, kp, b, fu⟩ := T.ok i (d := ⟨pgA C m, m, q, st⟩) S hb len body hd
  obtain ⟨p, hp⟩ := T.prop j hg
  exact ⟨p, _, fd, F, hp, b, T.cls c hc⟩
end
section
variable {X : Cx} {x m q : Str} {st : Stmt} {ps : List Str} {k j : Nat} {sp : Sp} {p pos apos : Pos} {e o : Expr} {es : List Expr} {t : TA} {ta : TE} {C : Addr}
theorem pe_f (h : Fk X.prog X.w X.K X.mg X.base x ps k sp st q) (hr : Room j X.A) (ha : PA X (e :: es) t) (hj : k ≤ j := by decide) (hg : Gl X x := by rfl) (hdb : (x == ("__debug__" : Str)) = false := by decide)
    (he : starEach (e :: es) X.env = (false, eval e X.env) :: starEach es X.env := by rfl) (hpl : (backTo pos (starEach es X.env)).any (·.1) = false := by rfl) : PE X (.Call (.Name x p) (e :: es) [] pos) (tCall sp [] E0 t) := by
  obtain ⟨f, fd, F, hm, kp, b, _⟩ := h.ex
  exact pe_call F (hr.mono hj) hg hm kp b .nil pass0 ha hdb he hpl
theorem pe_mk (h : Ini X.prog X.w X.K X.mg X.base C ps k sp st q) (hm : X.mg x = some (.ref C)) (hr : Room j X.A) (ha : PA X (e :: es) t) (hj : k + 1 ≤ j := by decide) (hg : Gl X x := by rfl) (hdb : (x == ("__debug__" : Str)) = false := by decide)
    (he : starEach (e :: es) X.env = (false, eval e X.env) :: starEach es X.env := by rfl) (hpl : (backTo pos (starEach es X.env)).any (·.1) = false := by rfl) : PE X (.Call (.Name x p) (e :: es) [] pos) (tMake C sp [] E0 t) := by
  obtain ⟨f, fd, F, M, b, _⟩ := h.ex
  exact pe_make M F (hr.mono hj) hg hm b .nil pass0 ha hdb he hpl
/-- how keywords bind, by the def's own text -/
def KwOk (x q : Str) (st : Stmt) (ps ks : List Str) (n : Nat) (g : {α : Type} → List α → List α → List α) : Prop :=
  ∀ (kV doc pm : Value) (an : Option Addr) (cdv ct : Value) (us ws : List Value), us.length = n → ws.length = ks.length → bindArgs (PySem.W.fnOf x q (defArgs st) (defBody st) (defScope st) .none kV doc pm an cdv ct) ⟨us, ks.zip ws⟩ = pure (ps.zip (g us ws))
theorem kw_to {K : PySem.W.Frag} {x q : Str} {st : Stmt} {ps ks : List Str} {n : Nat} {g : {α : Type} → List α → List α → List α} {f : Addr} {fd : FuncData} (F : FunD K x q (defArgs st) (defBody st) (defScope st) [] [] f fd) (h : KwOk x q st ps ks n g) :
    ∀ (s : Shared) (us ws : List Value), us.length = n → ws.length = ks.length → BindsTo s fd ⟨us, ks.zip ws⟩ (ps.zip (g us ws)) := by
  obtain ⟨oc, od, dV, kV, doc, pm, an, cdv, ct, osl, rfl, lk, hcd, hD, hK⟩ := F.ex
  intro s us ws h1 h2
  rcases hD with ⟨_, rfl⟩ | ⟨e, _⟩
  · exact .of_eq (h kV doc pm an cdv ct us ws h1 h2)
  · exact absurd rfl e
/-- o.m(k = e, ..) -/
def tMethK (C : Addr) (m : Str) (n : Nat) (sp : Sp) (g : List V → List V → List V) (ta : TE) (tk : TA) : TE := fun σ H Q => ta σ H fun x H1 => ∃ a dx fs, x = .ref a ∧ H1 a = some (.ins C dx fs) ∧ fs.lookup m = none ∧ tk σ H1 fun zs H2 => zs.length = n ∧ sp (g [x] zs) H2 Q E0
theorem pe_pr (he : PE X o ta) (h : Prp X.prog X.w X.K X.mg X.base C x k sp) (hr : Room j X.A) (hj : k + 1 ≤ j := by decide) (hab : attributeBase o x X.env (eval o X.env) = eval o X.env := by rfl) : PE X (.Attribute o x pos) (tProp C sp [] E0 ta) := by
  obtain ⟨p, g, fd, F, hp, b, c⟩ := h.ex
  exact pe_prop he c hp F (hr.mono hj) b .nil pass0 hab
end
set_option Elab.async false
set_option linter.all false
set_option maxRecDepth 100000
set_option maxHeartbeats 4000000
section
variable {X : Cx}
theorem pe_globI {x : Str} {n : Int} {pos : Pos} (h : ∃ t, X.mg x = some (.int n t)) (hg : Gl X x := by rfl) (hd : (x == ("__debug__" : Str)) = false := by decide) : PE X (.Name x pos) (tC (.int n)) := by
  obtain ⟨t, e⟩ := h
  exact pe_glob hg e ⟨t, rfl⟩ hd
end
section
variable {J : It} {n : Nat} {GG : Hp → Prop} {Y : Nat → Hp → V → Hp → Prop} {g : TG} {te : TE} {vs : List Nat} {σ : L2.St} {H1 : Hp} {Q : VK}
theorem Fr.mut {J : List Addr} {H H1 : Hp} {p : Addr} {o : HO} (a : Fr J H H1) (hp : H p = none) : Fr J H (upd H1 p o) := fun x u hx h => by
  rw [upd_ne (ne_of_none h hp)]
  exact a x u hx h
/-- a list made item by item, nothing that stood changed -/
theorem lc_pure (w : Walk J n GG Y) (f : Nat → V) (hn : n ≤ 100000) (hG : ∀ H', Fr [] H1 H' → GG H') (hY : ∀ i H' x H'', Y i H' x H'' → Fr [] H' H'')
    (he : ∀ i x H' H'' (R : VK), i < n → Fr [] H1 H' → Y i H' x H'' → (∀ H4, Fr [] H'' H4 → R (f i) H4) → g x (wipe σ vs) H'' fun σ2 H2 => wipe σ2 vs = wipe σ vs ∧ te σ2 H2 R)
    (hd : ∀ D H', H1 D = none → Fr [] H1 H' → H' D = some (.lst ((List.range n).map f)) → Q (.ref D) H') : LcJ g tYes te vs σ Q J H1 := by
  intro D hD
  refine lc_it w (fun i H' => i ≤ n ∧ Fr [] H1 H' ∧ H' D = some (.lst ((List.range i).map f))) ⟨Nat.zero_le _, (Fr.refl H1).mut hD, upd_same⟩ (fun i H' _ p => hG H' p.2.1) (fun i x H' H'' hi p y => ?_) (fun H' p => hd D H' hD p.2.1 p.2.2)
  obtain ⟨p1, p2, p3⟩ := p
  have hf := hY i H' x H'' y
  refine he i x H' H'' (fun y H4 => ∃ acc, H4 D = some (.lst acc) ∧ acc.length < sizeLine ∧ (i + 1 ≤ n ∧ Fr [] H1 (upd H4 D (.lst (acc ++ [y]))) ∧ (upd H4 D (.lst (acc ++ [y]))) D = some (.lst ((List.range (i + 1)).map f)))) hi p2 y fun H4 e4 => ?_
  have e5 : Fr [] H' H4 := hf.trans e4
  refine ⟨_, e5 _ _ (fun z => nomatch z) p3, ?_, hi, (p2.trans e5).mut hD, ?_⟩
  · rw [List.length_map, List.length_range]
    exact Nat.lt_of_lt_of_le (show i < 100001 by omega) (by decide)
  · rw [upd_same, List.range_succ, List.map_append]
    rfl
end
theorem r_iteY {c A B : Prop} [Decidable c] (hc : c) (h : A) : if decide c = true then A else B := by
  rw [if_pos (decide_eq_true hc)]
  exact h
theorem r_iteZ {c A B : Prop} [Decidable c] (hc : ¬ c) (h : B) : if decide c = true then A else B := by
  rw [if_neg (fun z => hc (of_decide_eq_true z))]
  exact h
theorem r_iteNY {c A B : Prop} [Decidable c] (hc : c) (h : B) : if (!decide c) = true then A else B := iteNS hc h
/-- the i-th number -/
def nth (ns : List Int) (i : Nat) : Int := ns.getD i 0
theorem nth_at {ns : List Int} {i : Nat} {x : V} (h : (ns.map V.int)[i]? = some x) : x = .int (nth ns i) := by
  rw [List.getElem?_map] at h
  unfold nth
  rw [List.getD_eq_getElem?_getD]
  cases e : ns[i]? with
  | none =>
    rw [e] at h
    cases h
  | some z =>
    rw [e] at h
    exact (Option.some.inj h).symm
theorem at_nth {ns : List Int} {i : Nat} (h : i < ns.length) : (ns.map V.int)[i]? = some (.int (nth ns i)) := by
  rw [List.getElem?_map, List.getElem?_eq_getElem h]
  unfold nth
  rw [List.getD_eq_getElem?_getD, List.getElem?_eq_getElem h]
  rfl
theorem getElem_nth {ns : List Int} {i : Nat} (h : i < ns.length) : ns[i] = nth ns i := by
  unfold nth
  rw [List.getD_eq_getElem?_getD, List.getElem?_eq_getElem h]
  rfl
theorem range_nth (ns : List Int) : (List.range ns.length).map (nth ns) = ns := by
  refine List.ext_getElem (by simp) fun i h1 h2 => ?_
  rw [List.getElem_map, List.getElem_range, getElem_nth h2]
theorem range_map (ns : List Int) (g : Int → Int) : (List.range ns.length).map (fun i => V.int (g (nth ns i))) = (ns.map g).map V.int := by
  have e : (fun i => V.int (g (nth ns i))) = (V.int ∘ g) ∘ nth ns := rfl
  rw [e, ← List.map_map, range_nth, List.map_map]
/-- [g(x) for x in a], nothing that stood changed -/
theorem lc_map {K : PySem.W.Frag} {a : Addr} {te : TE} {vs : List Nat} {σ : L2.St} {H1 : Hp} {Q : VK} {k : Nat} {ns : List Int} (g : Int → Int) (ha : SqL K H1 a (ns.map V.int)) (hn : ns.length ≤ 100000) (hw : ∀ x, wipe ((wipe σ vs).set k (some x)) vs = wipe σ vs)
    (he : ∀ i H' (R : VK), i < ns.length → Fr [] H1 H' → (∀ H4, Fr [] H' H4 → R (.int (g (nth ns i))) H4) → te ((wipe σ vs).set k (some (.int (nth ns i)))) H' R)
    (hd : ∀ D H', H1 D = none → Fr [] H1 H' → H' D = some (.lst ((ns.map g).map V.int)) → Q (.ref D) H') : LcJ (gName k) tYes te vs σ Q (Itl K a) H1 := by
  have e1 : (ns.map V.int).length = ns.length := List.length_map _
  refine lc_pure (walk_list (xs := ns.map V.int)) (fun i => .int (g (nth ns i))) (by omega) (fun H' e => e.sql ha (fun z => nomatch z)) (fun i H' x H'' y => by rw [y.1]; exact Fr.refl _) (fun i x H' H'' R hi e y kR => ?_) (fun D H' hD e hD' => ?_)
  · obtain ⟨rfl, hx⟩ := y
    rw [nth_at hx]
    exact ⟨hw _, he i _ R (by omega) e kR⟩
  · rw [e1, range_map] at hD'
    exact hd D H' hD e hD'
theorem cut_last (xs : List V) : cutV xs none (some (-1)) = xs.dropLast := by
  unfold cutV
  rw [List.dropLast_eq_take, show HT.sIx xs.length 0 none = 0 from rfl, List.drop_zero, show HT.sIx xs.length xs.length (some (-1)) = ((-1 : Int) + (xs.length : Int)).toNat from rfl]
  congr 1
  omega
theorem atI_end {ns : List Int} (h : 0 < ns.length) : atI (ns.map V.int) (-1) = some (.int (nth ns (ns.length - 1))) := by
  have e : ns = ns.take (ns.length - 1) ++ [nth ns (ns.length - 1)] := by
    rw [← getElem_nth (show ns.length - 1 < ns.length by omega)]
    have := List.take_append_getElem (l := ns) (i := ns.length - 1) (by omega)
    rw [this, List.take_of_length_le (by omega)]
  have e2 : ns.map V.int = (ns.take (ns.length - 1)).map V.int ++ [.int (nth ns (ns.length - 1))] := by
    rw [show [V.int (nth ns (ns.length - 1))] = [nth ns (ns.length - 1)].map V.int from rfl, ← List.map_append, ← e]
  rw [e2, atI_last]
/-- no number of the first is above its one of the second -/
def leAll (ns ms : List Int) : Bool := (List.range (min ns.length ms.length)).all fun i => decide (nth ns i ≤ nth ms i)
theorem leAll_of {ns ms : List Int} (h : ∀ i, i < ns.length → nth ns i ≤ nth ms i) : leAll ns ms = true := by
  unfold leAll
  refine List.all_eq_true.mpr fun i hi => decide_eq_true (h i ?_)
  have := List.mem_range.mp hi
  omega
section
variable {X : Cx} {C : Addr} {k : Nat}
abbrev rNeP (C : Addr) (sp : Sp) : R2 := fun x y H Q => ∃ a dx fs b dy gs, x = .ref a ∧ y = .ref b ∧ H a = some (.ins C dx fs) ∧ H b = some (.ins C dy gs) ∧ sp [.ref a, .ref b] H (fun v H' => ∃ r, v = .bl r ∧ Q (.bl (!r)) H') E0
end
section
variable {prog : Program} {w : World} {A : Around} {E : Value → Shared → Prop} {s : Shared} {K : PySem.W.Frag} {x y C f : Addr} {ox oy : Obj} {od od' : Option Obj}
open PySem.W in
theorem ne_body {Q : Fin → Shared → Prop} (hu : A.units < cLine) (X : K.In s.heap) (I : InstAt s.heap x ox C od) (he : findIn K (.ref C) "__eq__" = some (some (.ref f))) (hf : isFn K (.ref f) = true)
    (h : wpAny (model prog w) A (call (.ref f) [.ref x, .ref y]) (fun v s' => ∃ b, v = .bool b ∧ Q (.done (.ret (.bool (!b)))) s') E s) : wpAny (model prog w) A (Builtin.«object.__ne__» ⟨[.ref x, .ref y], []⟩) Q E s := by
  obtain ⟨hp, g, d, t, os⟩ := s
  unfold Builtin.«object.__ne__»
  repeat (first
    | with_reducible refine wpAny_cRoomFor hu ?_
    | (refine wpAny_bind (m := callSpecialIfBound? (.ref x) (Str.ofString "__eq__") [.ref y]) (ifBound_K X I he hf (wpAny_mono h (fun r s' hr => ?_) fun _ _ e => e)); obtain ⟨b, rfl, hq⟩ := hr)
    | (refine wpAny_bind (m := truthy (.bool _)) (wpAny_truthy_bool ?_))
    | exact hq | exact wpAny_pure hq
    | wp_step)
open PySem.W in
theorem bound_B {B id : String} {nm : Str} {M : Model} {args : List Value} {Q : Option Value → Shared → Prop} (S : Slot B nm id) (X : K.In s.heap) (I : InstAt s.heap x ox C od) (hn : findIn K (.ref C) nm = some (some (.builtin id)))
    (h : wpAny M A (call (.builtin id) (.ref x :: args)) (fun v s' => Q (some v) s') E s) : wpAny M A (callSpecialIfBound? (.ref x) nm args) Q E s := by
  have go : wpAny M A (call (.builtin id) ([.ref x] ++ args) >>= fun v => pure (some v)) Q E s := wpAny_bind (wpAny_mono h (fun v s' q => wpAny_pure q) fun _ _ q => q)
  simp only [bindSpecialIfBound?, callSpecialIfBound?]
  apply wpAny_holding
  refine wpAny_bind (wpAny_bind (wpAny_bind (I.type.here ((looks_findIn X hn).here ?_))))
  simp only [S.bind]
  apply wpAny_bind
  refine wpAny_askSetting (wpAny_ite ?_)
  split
  · refine wpAny_bind (wpAny_pure (wpAny_pure ?_))
    exact go
  · refine wpAny_tryCatch (wpAny_bind (wpAny_pure (wpAny_pure ?_)))
    exact go
open PySem.W in
theorem ne_try {Q : Option Value → Shared → Prop} (hu : A.units + 1 < cLine) (X : K.In s.heap) (I : InstAt s.heap x ox C od) (hn : findIn K (.ref C) "__ne__" = some (some (.builtin "object.__ne__"))) (hm : mroIn K C (.type "object") = some true)
    (he : findIn K (.ref C) "__eq__" = some (some (.ref f))) (hf : isFn K (.ref f) = true)
    (h : wpAny (model prog w) A.in1 (call (.ref f) [.ref x, .ref y]) (fun v s' => ∃ b, v = .bool b ∧ Q (some (.bool (!b))) s') E s) : wpAny (model prog w) A (tryCompare (.ref x) "__ne__" (.ref y)) Q E s := by
  have S := F.cmp_object.ne
  have sub : Looks (model prog w) s.heap (isInstance (.ref x) (.type "object")) true := I.type.andThen (looks_mroIn X hm)
  unfold tryCompare
  refine wpAny_bind (bound_B S X I hn ?_)
  refine wpAny_call (codeAny_call_builtin S.plain F.cmpEntry_ne (check_slot F.cmpKind_ne F.cmpSplit_ne sub (F.cmpArgs_ne _ _) ?_))
  refine ne_body (A := A.in1) hu X I he hf (wpAny_mono h (fun v s' hv => ?_) fun _ _ e => e)
  obtain ⟨b, e, q⟩ := hv
  exact ⟨b, e, wpAny_pure q⟩
open PySem.W in
theorem ne_K {h₀ : Heap} {L : Addr} {m : Str → Option Value} {Q : Value → Shared → Prop} (hu : A.units + 1 < cLine) (X : K.In s.heap) (I : InstAt s.heap x ox C od) (J : InstAt s.heap y oy C od') (hn : findIn K (.ref C) "__ne__" = some (some (.builtin "object.__ne__"))) (hm : mroIn K C (.type "object") = some true)
    (he : findIn K (.ref C) "__eq__" = some (some (.ref f))) (hf : isFn K (.ref f) = true)
    (h : wpAny (model prog w) A.in1 (call (.ref f) [.ref x, .ref y]) (fun v s' => ∃ b, v = .bool b ∧ Q (.bool (!b)) s') E s) : wpAny (model prog w) A (richCompare .NotEq (.ref x) (.ref y)) Q E s := by
  unfold richCompare
  simp only [oneThing_ref]
  refine wpAny_holding (wpAny_bind (wpAny_cRoomFor (Nat.lt_of_succ_lt hu) (wpAny_bind (I.type.here (wpAny_bind (J.type.here ?_))))))
  rw [show (Value.ref C != Value.ref C) = false by simp]
  have go := ne_try (Q := fun r s' => ∃ b, r = some (.bool b) ∧ Q (.bool b) s') hu X I hn hm he hf (wpAny_mono h (fun v s' hv => by
    obtain ⟨b, e, q⟩ := hv
    exact ⟨b, e, _, rfl, q⟩) fun _ _ e => e)
  simp only [Bool.false_eq_true, if_false]
  refine wpAny_bind (wpAny_pure ?_)
  simp only [Bool.false_eq_true, if_false]
  refine wpAny_bind (wpAny_mono go (fun r s' z => ?_) fun _ _ e => e)
  obtain ⟨b, rfl, q⟩ := z
  exact wpAny_pure q
end
section
variable {X : Cx} {C : Addr} {k : Nat}
theorem op_neP {sp : Sp} {st0 : Stmt} {q0 : Str} (h : Mth X.prog X.w X.K X.mg X.base C "__eq__" ["self", "other"] k sp st0 q0) (hn : PySem.W.findIn X.K (.ref C) "__ne__" = some (some (.builtin "object.__ne__"))) (hm : PySem.W.mroIn X.K C (.type "object") = some true) (hr0 : Room (k + 1) X.A) : OpR X (compareOp .NotEq) (rNeP C sp) := by
  intro pins s σ H x y v u Q I rx ry hq
  obtain ⟨f, fd, F, hm1, b0, cl, _⟩ := h.ex
  obtain ⟨a, dx, fs, b, dy, gs, rfl, rfl, ha, hb, hsp⟩ := hq
  cases rx
  cases ry
  have hr : Room k X.A.in1 := hr0.in1
  obtain ⟨mA, J, _⟩ := ins_get I.hok ha
  obtain ⟨mB, J', _⟩ := ins_get I.hok hb
  obtain ⟨od, J, _⟩ := J.look
  obtain ⟨od', J', _⟩ := J'.look
  show wpAny (model X.prog X.w) X.A (richCompare .NotEq (.ref a) (.ref b)) _ _ s
  refine ne_K (h₀ := X.base) (L := 0) (m := fun _ => none) (by have := hr0.units; omega) I.kIn J J' hn hm hm1.at_ hm1.fn (wpAny_call ?_)
  refine codeAny_mono (F.run X.A.in1 X.stack s H ⟨[.ref a, .ref b], []⟩ [.ref a, .ref b] [.ref a, .ref b] _ E0 hr I.env0.in1 (by simpa using b0 s [.ref a, .ref b] I.kIn rfl) (.cons rfl (.cons rfl .nil)) hsp) fun r s' hq => ?_
  cases r with
  | error e => exact hq.elim
  | ok fl =>
    cases fl with
    | ret w =>
      obtain ⟨z, H', I', rz, r, ez, q⟩ := I.after hq
      subst ez
      cases rz
      exact ⟨r, rfl, .bl (!r), H', I', rfl, q⟩
    | next => exact False.elim hq
    | brk => exact False.elim hq
    | cont => exact False.elim hq
end
set_option Elab.async false
set_option linter.all false
set_option maxRecDepth 100000
set_option maxHeartbeats 4000000
structure BagB (ns : List Int) (b c d : Int) (n : Nat) : Prop where
  len : ns.length ≤ 63
  all : ∀ x ∈ ns, 0 ≤ x
  b0 : 0 ≤ b
  c0 : 0 ≤ c
  c1 : c < 2 ^ 31
  d0 : 0 ≤ d
  d1 : d + 100 * n ≤ 100000000
abbrev BagO (ls : Addr) (i : Nat) (b c d : Int) : HO := .lst [.ref ls, .int (i : Nat), .int b, .int c, .int d]
def JarAt (ls : Addr) (H : Hp) (j : Addr) (n : Nat) : Prop := ∃ (ns : List Int) (i : Nat) (b c d : Int), H j = some (BagO ls i b c d) ∧ H ls = some (.lst (ns.map V.int)) ∧ ls ≠ j ∧ i ≤ ns.length ∧ BagB ns b c d n
theorem JarAt.le {ls : Addr} {H : Hp} {j : Addr} {n m : Nat} (h : JarAt ls H j n) (l : m ≤ n) : JarAt ls H j m := by
  obtain ⟨ns, i, b, c, d, e, e2, nj, hi, q⟩ := h
  exact ⟨ns, i, b, c, d, e, e2, nj, hi, q.len, q.all, q.b0, q.c0, q.c1, q.d0, by have := q.d1; omega⟩
theorem JarAt.fr {ls : Addr} {H H' : Hp} {j : Addr} {n : Nat} (h : JarAt ls H j n) (f : Fr [] H H') : JarAt ls H' j n := by
  obtain ⟨ns, i, b, c, d, e, e2, nj, hi, q⟩ := h
  exact ⟨ns, i, b, c, d, f _ _ (fun z => nomatch z) e, f _ _ (fun z => nomatch z) e2, nj, hi, q⟩
theorem JarAt.ne {ls : Addr} {H : Hp} {j p : Addr} {n : Nat} (h : JarAt ls H j n) (hp : H p = none) : p ≠ j := fun e => by
  obtain ⟨ns, i, b, c, d, e1, _⟩ := h
  rw [e, e1] at hp
  cases hp
theorem JarAt.some {ls : Addr} {H : Hp} {j : Addr} {n : Nat} (h : JarAt ls H j n) : ∃ o, H j = some o := by
  obtain ⟨ns, i, b, c, d, e, _⟩ := h
  exact ⟨_, e⟩
theorem JarAt.sls {ls : Addr} {H : Hp} {j : Addr} {n : Nat} (h : JarAt ls H j n) : ∃ o, H ls = Option.some o := by
  obtain ⟨ns, i, b, c, d, _, e, _⟩ := h
  exact ⟨_, e⟩
/-- the known heap beside the jar -/
structure ZJ (ls : Addr) (H0 H : Hp) (j : Addr) (n : Nat) (E : List En) : Prop where
  jar : JarAt ls H j n
  nd : (E.map (·.2.1)).Nodup
  at_ : ∀ q ∈ E, H q.2.1 = some q.2.2
  ne : ∀ q ∈ E, q.2.1 ≠ j
  two : ∀ q ∈ E, q.1 = 2
  fresh : ∀ q ∈ E, H0 q.2.1 = none
  fr : Fr [j] H0 H
  old : ∃ o, H0 ls = Option.some o
section
variable {ls : Addr} {H0 H H' : Hp} {j : Addr} {n : Nat} {E : List En}
theorem ZJ.start (h : JarAt ls H j n) : ZJ ls H H j n [] := ⟨h, List.nodup_nil, (fun _ m => nomatch m), (fun _ m => nomatch m), (fun _ m => nomatch m), (fun _ m => nomatch m), Fr.refl H, h.sls⟩
theorem ZJ.get (z : ZJ ls H0 H j n E) {t : Nat} {a : Addr} {o : HO} (h : (t, a, o) ∈ E) : H a = some o := z.at_ _ h
theorem ZJ.keep (z : ZJ ls H0 H j n E) {a : Addr} {o : HO} (h : H0 a = some o) (n : a ≠ j) : H a = some o := z.fr _ _ (fun m => by
  rcases List.mem_cons.mp m with e | m
  · exact n e
  · cases m) h
theorem ZJ.none (z : ZJ ls H0 H j n E) {p : Addr} (hp : H p = none) : H0 p = none := by
  cases e : H0 p with
  | none => rfl
  | some o =>
    rw [z.keep e (z.jar.ne hp)] at hp
    cases hp
theorem ZJ.alloc (z : ZJ ls H0 H j n E) {p : Addr} (o : HO) (hp : H p = Option.none) : ZJ ls H0 (upd H p o) j n ((2, p, o) :: E) := by
  have hn : ∀ q ∈ E, q.2.1 ≠ p := fun q hq => ne_of_none (z.at_ q hq) hp
  have hj := z.jar.ne hp
  refine ⟨z.jar.fr ((Fr.refl H).new hp), ?_, fun q hq => ?_, fun q hq => ?_, fun q hq => ?_, fun q hq => ?_, z.fr.new hp, z.old⟩
  · rw [List.map_cons, List.nodup_cons]
    refine ⟨fun m => ?_, z.nd⟩
    obtain ⟨q, hq, e⟩ := List.mem_map.mp m
    exact hn q hq e
  all_goals rcases List.mem_cons.mp hq with rfl | hq
  · exact upd_same
  · rw [upd_ne (hn q hq)]
    exact z.at_ q hq
  · exact hj
  · exact z.ne q hq
  · rfl
  · exact z.two q hq
  · exact z.none hp
  · exact z.fresh q hq
theorem ZJ.other (z : ZJ ls H0 H j n E) {i k : Nat} {q r : En} (hi : E[i]? = some q) (hk : E[k]? = some r) (h : k ≠ i) : r.2.1 ≠ q.2.1 := fun e => by
  have h1 : (E.map (·.2.1))[i]? = some q.2.1 := by rw [List.getElem?_map, hi] <;> rfl
  have h2 : (E.map (·.2.1))[k]? = some r.2.1 := by rw [List.getElem?_map, hk] <;> rfl
  rw [e] at h2
  obtain ⟨g1, e1⟩ := List.getElem?_eq_some_iff.mp h1
  obtain ⟨g2, e2⟩ := List.getElem?_eq_some_iff.mp h2
  exact h ((List.getElem_inj z.nd).mp (e2.trans e1.symm))
/-- a store to the i-th entry -/
theorem ZJ.set (z : ZJ ls H0 H j n E) (i : Nat) {t : Nat} {a : Addr} {o : HO} (o' : HO) (hi : E[i]? = some (t, a, o)) : ZJ ls H0 (upd H a o') j n (E.set i (t, a, o')) := by
  have hin := List.mem_of_getElem? hi
  have haj := z.ne _ hin
  have hal : ls ≠ a := fun x => by
    have h1 := z.fresh _ hin
    obtain ⟨o1, h2⟩ := z.old
    rw [x] at h2
    rw [h2] at h1
    cases h1
  refine ⟨?_, ?_, fun q hq => ?_, fun q hq => ?_, fun q hq => ?_, fun q hq => ?_, ?_, z.old⟩
  · obtain ⟨ns, i, b, c, d, e, e2, nj, hi, q⟩ := z.jar
    exact ⟨ns, i, b, c, d, by rw [upd_ne haj.symm]; exact e, by rw [upd_ne hal]; exact e2, nj, hi, q⟩
  · rw [map_set_same hi]
    exact z.nd
  · rcases mem_set_of hq with rfl | ⟨k, hk, e⟩
    · exact upd_same
    · rw [upd_ne (z.other hi e hk)]
      exact z.at_ q (List.mem_of_getElem? e)
  · rcases mem_set_of hq with rfl | ⟨k, hk, e⟩
    · exact haj
    · exact z.ne q (List.mem_of_getElem? e)
  · rcases mem_set_of hq with rfl | ⟨k, hk, e⟩
    · exact z.two (t, a, o) hin
    · exact z.two q (List.mem_of_getElem? e)
  · rcases mem_set_of hq with rfl | ⟨k, hk, e⟩
    · exact z.fresh (t, a, o) hin
    · exact z.fresh q (List.mem_of_getElem? e)
  · exact z.fr.mut (z.fresh _ hin)
/-- behind draws -/
theorem ZJ.dips (z : ZJ ls H0 H j n E) {m : Nat} (f : Fr [j] H H') (h : JarAt ls H' j m) : ZJ ls H0 H' j m E :=
  ⟨h, z.nd, fun q hq => f _ _ (fun s => by
    rcases List.mem_cons.mp s with e | s
    · exact z.ne q hq e
    · cases s) (z.at_ q hq), z.ne, z.two, z.fresh, z.fr.trans f, z.old⟩
/-- behind a call that draws and makes N -/
theorem ZJ.call (z : ZJ ls H0 H j n E) {m : Nat} {N : List (Addr × HO)} (f : Fr [j] H H') (h : JarAt ls H' j m) (w : New H H' N) : ZJ ls H0 H' j m (N.map (fun q => ((2, q.1, q.2) : En)) ++ E) := by
  have y := z.dips f h
  refine ⟨h, ?_, fun q hq => ?_, fun q hq => ?_, fun q hq => ?_, fun q hq => ?_, y.fr, z.old⟩
  · rw [List.map_append, List.nodup_append]
    refine ⟨?_, z.nd, fun x hx r hr e => ?_⟩
    · rw [List.map_map]
      exact w.1.1
    · obtain ⟨q, hq, rfl⟩ := List.mem_map.mp hx
      obtain ⟨q', hq', rfl⟩ := List.mem_map.mp hq
      obtain ⟨u, hu, rfl⟩ := List.mem_map.mp hr
      exact ne_of_none (z.at_ u hu) (w.2 q' hq') e.symm
  all_goals rcases List.mem_append.mp hq with hq | hq
  · obtain ⟨q', hq', rfl⟩ := List.mem_map.mp hq
    exact w.1.2 q' hq'
  · exact y.at_ q hq
  · obtain ⟨q', hq', rfl⟩ := List.mem_map.mp hq
    exact z.jar.ne (w.2 q' hq')
  · exact z.ne q hq
  · obtain ⟨q', hq', rfl⟩ := List.mem_map.mp hq
    rfl
  · exact z.two q hq
  · obtain ⟨q', hq', rfl⟩ := List.mem_map.mp hq
    exact z.none (w.2 q' hq')
  · exact z.fresh q hq
theorem ZJ.call0 (z : ZJ ls H0 H j n E) {N : List (Addr × HO)} (f : Fr [] H H') (w : New H H' N) : ZJ ls H0 H' j n (N.map (fun q => ((2, q.1, q.2) : En)) ++ E) := z.call f.up0 (z.jar.fr f) w
theorem new1 {D : Addr} {o : HO} (h0 : H D = Option.none) (h1 : H' D = some o) : New H H' [(D, o)] := by
  refine ⟨⟨List.nodup_cons.mpr ⟨(fun m => nomatch m), List.nodup_nil⟩, fun q hq => ?_⟩, fun q hq => ?_⟩
  all_goals
    rcases List.mem_cons.mp hq with rfl | hq
    · assumption
    · cases hq
theorem ZJ.comp (z : ZJ ls H0 H j n E) {D : Addr} {o : HO} (f : Fr [] H H') (h0 : H D = Option.none) (h1 : H' D = some o) : ZJ ls H0 H' j n ((2, D, o) :: E) := z.call0 (N := [(D, o)]) f (new1 h0 h1)
theorem ZJ.same (z : ZJ ls H0 H j n E) (f : Fr [] H H') : ZJ ls H0 H' j n E := z.dips f.up0 (z.jar.fr f)
theorem ZJ.sub (z : ZJ ls H0 H j n E) {E' : List En} (s : E'.Sublist E) : ZJ ls H0 H j n E' :=
  ⟨z.jar, (s.map _).nodup z.nd, fun q hq => z.at_ q (s.subset hq), fun q hq => z.ne q (s.subset hq), fun q hq => z.two q (s.subset hq), fun q hq => z.fresh q (s.subset hq), z.fr, z.old⟩
theorem ZJ.perm (z : ZJ ls H0 H j n E) {E' : List En} (s : E'.Perm E) : ZJ ls H0 H j n E' :=
  ⟨z.jar, (s.map _).nodup_iff.mpr z.nd, fun q hq => z.at_ q (s.subset hq), fun q hq => z.ne q (s.subset hq), fun q hq => z.two q (s.subset hq), fun q hq => z.fresh q (s.subset hq), z.fr, z.old⟩
theorem ZJ.le (z : ZJ ls H0 H j n E) {m : Nat} (l : m ≤ n) : ZJ ls H0 H j m E := ⟨z.jar.le l, z.nd, z.at_, z.ne, z.two, z.fresh, z.fr, z.old⟩
theorem ZJ.made (z : ZJ ls H0 H j n E) {N : List (Addr × HO)} (s : (N.map (fun q => ((2, q.1, q.2) : En))).Sublist E) : New H0 H N := by
  refine ⟨⟨?_, fun q hq => z.at_ (2, q.1, q.2) (s.subset (List.mem_map.mpr ⟨q, hq, rfl⟩))⟩, fun q hq => z.fresh (2, q.1, q.2) (s.subset (List.mem_map.mpr ⟨q, hq, rfl⟩))⟩
  have := (s.map (·.2.1)).nodup z.nd
  rw [List.map_map] at this
  exact this
theorem pick_mem {E : List En} : ∀ (is : List Nat) (N : List (Addr × HO)), is.map (fun i => E[i]?) = N.map (fun q => some ((2, q.1, q.2) : En)) → ∀ q ∈ N, ∃ i ∈ is, E[i]? = some (2, q.1, q.2)
  | [], [], _, q, hq => nomatch hq
  | [], _ :: _, e, _, _ => by cases e
  | _ :: _, [], e, _, _ => by cases e
  | i :: is, p :: N, e, q, hq => by
    rw [List.map_cons, List.map_cons, List.cons.injEq] at e
    rcases List.mem_cons.mp hq with rfl | hq
    · exact ⟨i, List.mem_cons_self, e.1⟩
    · obtain ⟨k, hk, h⟩ := pick_mem is N e.2 q hq
      exact ⟨k, List.mem_cons_of_mem _ hk, h⟩
theorem pick_nd {ls : Addr} {H0 H : Hp} {j : Addr} {n : Nat} {E : List En} (z : ZJ ls H0 H j n E) : ∀ (is : List Nat) (N : List (Addr × HO)), is.Nodup → is.map (fun i => E[i]?) = N.map (fun q => some ((2, q.1, q.2) : En)) → (N.map (·.1)).Nodup
  | [], [], _, _ => List.nodup_nil
  | [], _ :: _, _, e => by cases e
  | _ :: _, [], _, e => by cases e
  | i :: is, p :: N, nd, e => by
    rw [List.map_cons, List.map_cons, List.cons.injEq] at e
    rw [List.nodup_cons] at nd
    rw [List.map_cons, List.nodup_cons]
    refine ⟨fun m => ?_, pick_nd z is N nd.2 e.2⟩
    obtain ⟨q, hq, e1⟩ := List.mem_map.mp m
    obtain ⟨k, hk, h⟩ := pick_mem is N e.2 q hq
    exact z.other e.1 h (fun x => nd.1 (x ▸ hk)) e1
/-- of what is known the entries at these places -/
theorem ZJ.pick {ls : Addr} {H0 H : Hp} {j : Addr} {n : Nat} {E : List En} (z : ZJ ls H0 H j n E) {N : List (Addr × HO)} (is : List Nat) (e : is.map (fun i => E[i]?) = N.map (fun q => some ((2, q.1, q.2) : En))) (nd : is.Nodup := by decide) : New H0 H N :=
  ⟨⟨pick_nd z is N nd e, fun q hq => by
    obtain ⟨i, _, h⟩ := pick_mem is N e q hq
    exact z.at_ _ (List.mem_of_getElem? h)⟩, fun q hq => by
    obtain ⟨i, _, h⟩ := pick_mem is N e q hq
    exact z.fresh _ (List.mem_of_getElem? h)⟩
end
theorem nth_mem {ns : List Int} {i : Nat} (h : i < ns.length) : nth ns i ∈ ns := by
  rw [← getElem_nth h]
  exact List.getElem_mem h
set_option Elab.async false
set_option linter.all false
set_option maxRecDepth 100000
set_option maxHeartbeats 2000000
def ItS (K : PySem.W.Frag) (c : Int) (a : Addr) : It where
  go := (Ite K a).go
  stop := (Ite K a).stop
  yld := fun i H v H' => ∃ (T : Addr) (x : V), v = .ref T ∧ H T = none ∧
    H' = upd H T (.tup [.int (c + (i : Int)), x]) ∧
    ∀ xs, SqL K H a xs → xs[i]? = some x
/-- reading: enumerate(e, start=c) -/
def iEnumS (K : PySem.W.Frag) (c : Int) (ta : TE) : TI := fun σ H R => ta σ H fun v H1 => ∃ a xs, v = .ref a ∧ SqL K H1 a xs ∧ R (ItS K c a) H1
theorem r_ienumS {K : PySem.W.Frag} {c : Int} {te : TE} {σ : L2.St} {H : Hp} {R : It → Hp → Prop} (h : te σ H fun v H1 => ∃ a xs, v = .ref a ∧ SqL K H1 a xs ∧ R (ItS K c a) H1) : iEnumS K c te σ H R := h
theorem r_methK {σ : L2.St} {H : Hp} {Q : VK} {C : Addr} {m : Str} {n : Nat} {sp : Sp} {g : List V → List V → List V} {ta : TE} {tk : TA}
    (h : ta σ H fun x H1 => ∃ a dx fs, x = .ref a ∧ H1 a = some (.ins C dx fs) ∧ fs.lookup m = none ∧ tk σ H1 fun zs H2 => zs.length = n ∧ sp (g [x] zs) H2 Q E0) : tMethK C m n sp g ta tk σ H Q := h
theorem relabel_free {env : Env} {x : Str} {names : List (Str × NameKind)} (h : names.lookup x = some .cell ∨ names.lookup x = some .free) :
    (names.map fun (n, k) => if (k == NameKind.free && env.scope.kind == .function && env.kindOf n == some .cell) then (n, NameKind.cell) else (n, k)).lookup x = some .cell ∨
    (names.map fun (n, k) => if (k == NameKind.free && env.scope.kind == .function && env.kindOf n == some .cell) then (n, NameKind.cell) else (n, k)).lookup x = some .free := by
  induction names with
  | nil =>
    rcases h with h | h
    · cases h
    · cases h
  | cons q r ih =>
    obtain ⟨n, k⟩ := q
    rw [List.map_cons]
    have hd : (if (k == NameKind.free && env.scope.kind == .function && env.kindOf n == some .cell) = true then (n, NameKind.cell) else (n, k)) = (n, if (k == NameKind.free && env.scope.kind == .function && env.kindOf n == some .cell) = true then NameKind.cell else k) := by
      split <;> rfl
    dsimp only
    rw [hd]
    by_cases e : (x == n) = true
    · rw [List.lookup_cons, e] at h ⊢
      dsimp only at h ⊢
      split
      · exact .inl rfl
      · exact h
    · have e := Bool.eq_false_iff.mpr e
      rw [List.lookup_cons, e] at h ⊢
      exact ih h
theorem blkRel {N : List Str} {sc scope : Scope} {env : Env} {own : List (Str × Nat)} (h : BlkOk N sc scope own) : BlkOk N (relabel sc env) scope own :=
  ⟨h.kind, h.uniq, h.ix, fun y hy e => relabel_free (h.free y hy e), h.own⟩
set_option Elab.async false
set_option linter.all false
set_option maxRecDepth 100000
set_option maxHeartbeats 4000000
section
variable {K : PySem.W.Frag} {H : Hp} {Q : VK} {a : Addr} {σ : L2.St}
theorem r_sum {ns : List Int} (h : SqL K H a (ns.map V.int)) (q : Q (.int ns.sum) H) : rSum K [.ref a] H Q := ⟨a, ns, rfl, h, q⟩
theorem r_glst {k : Nat} {T : TGs} {R : L2.St → Hp → Prop} {xs : List V} (h : SqL K H a xs) (e : xs.length = k) (q : T xs σ H R) : gLst K k T (.ref a) σ H R := ⟨a, xs, rfl, h, e, q⟩
end
theorem r_par3 {σ : L2.St} {H : Hp} {D : Ends} {tas : TA} {i j l : Nat} (h : tas σ H fun vs H1 => ∃ u v w, vs = [u, v, w] ∧ D.nx (((σ.set i (some u)).set j (some v)).set l (some w)) H1) : tPar3 i j l tas D σ H := h
theorem r_expar3 {x y z : V} {R : V → V → V → Prop} (h : R x y z) : ∃ u v w, [x, y, z] = [u, v, w] ∧ R u v w := ⟨x, y, z, rfl, h⟩
set_option Elab.async false
set_option linter.all false
set_option maxRecDepth 100000
set_option maxHeartbeats 4000000
set_option Elab.async false
set_option linter.all false
set_option maxRecDepth 100000
set_option maxHeartbeats 4000000
abbrev IsSeqT (h : Heap) (T : Addr) (xs : Array Value) : Prop := h.get? T = some { cls := .type "tuple", data := .seq xs }
/-- a loop whose state stays the same -/
theorem wpAny_forIn_const {M : Model} {A : Around} {E : Value → Shared → Prop} {s : Shared} {α β : Type} {f : α → β → Sem (ForInStep β)} {b : β} {Q : β → Shared → Prop} (l : List α) (I : Nat → Shared → Prop)
    (turn : ∀ j x s, l[j]? = some x → I j s → wpAny M A (f x b) (fun r s' => r = .yield b ∧ I (j + 1) s') E s) (h0 : I 0 s) (fin : ∀ s', I l.length s' → Q b s') : wpAny M A (forIn l b f) Q E s := by
  refine wpAny_forIn_list f (fun rest b' s' => b' = b ∧ ∃ j, j ≤ l.length ∧ rest = l.drop j ∧ I j s') Q (fun x rest b' s' h => ?_) (fun b' s' h => ?_) l b ⟨rfl, 0, Nat.zero_le _, rfl, h0⟩
  · obtain ⟨rfl, j, hj, e, hI⟩ := h
    have hlt : j < l.length := by
      rcases Nat.lt_or_ge j l.length with c | c
      · exact c
      · rw [List.drop_eq_nil_of_le c] at e
        cases e
    rw [List.drop_eq_getElem_cons hlt, List.cons.injEq] at e
    refine wpAny_mono (turn j x s' (by rw [List.getElem?_eq_getElem hlt, e.1]) hI) (fun r s'' hr => ?_) fun _ _ z => z
    obtain ⟨rfl, hr⟩ := hr
    exact ⟨rfl, j + 1, hlt, e.2, hr⟩
  · obtain ⟨rfl, j, hj, e, hI⟩ := h
    have : j = l.length := by
      rcases Nat.lt_or_ge j l.length with c | c
      · rw [List.drop_eq_getElem_cons c] at e
        cases e
      · omega
    subst this
    exact fin s' hI
structure ApartN (z TI TO : Addr) (is ls : List Addr) : Prop where
  TIz : TI ≠ z
  TOz : TO ≠ z
  TITO : TI ≠ TO
  iz : z ∉ is
  iTI : TI ∉ is
  iTO : TO ∉ is
  nd : is.Nodup
  lz : z ∉ ls
  lTO : TO ∉ ls
  li : ∀ l ∈ ls, l ∉ is
/-- list iterators over lists, all at the k-th turn -/
def ItsAt (h : Heap) (k : Nat → Nat) (is ls : List Addr) : Prop := ∀ m i l, is[m]? = some i → ls[m]? = some l → h.IsListIter i l (k m)
section
variable {prog : Program} {w : World} {A : Around} {E : Value → Shared → Prop} {s : Shared}
theorem zipN_next {z TI TO : Addr} {is ls : List Addr} {k : Nat} {ov : Nat → Option Value} {Q : Value → Shared → Prop} (hh : A.handled = none ∨ ∀ m, m < is.length → ov m ≠ none) (D : ApartN z TI TO is ls) (hn : 0 < is.length ∧ is.length ≤ 100) (hll : ls.length = is.length)
    (hz : IsZip s.heap z TI TO .none) (hTI : IsSeqT s.heap TI (is.map Value.ref).toArray) (hTO : ∃ a : Array Value, a.size = is.length ∧ IsSeqT s.heap TO a)
    (hi : ItsAt s.heap (fun _ => k) is ls) (hl : ∀ m l, ls[m]? = some l → ∃ xs, s.heap.IsList l xs ∧ xs[k]? = ov m)
    (hQ : ∀ h' (vs : List Value), vs.length = is.length → (∀ m, m < is.length → ov m = vs[m]?) → IsZip h' z TI TO (rawInt s.heap.objs.size) → IsSeqT h' TO vs.toArray → ItsAt h' (fun _ => k + 1) is ls → IsSeqT h' s.heap.objs.size vs.toArray → h'.objs.size = s.heap.objs.size + 1 →
      (∀ c o, c ≠ z → c ≠ TO → c ∉ is → s.heap.get? c = some o → h'.get? c = some o) → Q (.ref s.heap.objs.size) { s with heap := h' })
    (hE : ∀ h' e, (∃ m, m < is.length ∧ ov m = none) → (∀ c o, c ≠ z → c ≠ TO → c ∉ is → s.heap.get? c = some o → h'.get? c = some o) → (∃ o, h'.get? e = some o ∧ o.cls = .type "StopIteration") → E (.ref e) { s with heap := h' }) :
    wpAny (model prog w) A (Builtin.«zip.__next__» ⟨[.ref z], []⟩) (fun fin s' => ∃ v, fin = .done (.ret v) ∧ Q v s') E s := by
  obtain ⟨hn0, hn1⟩ := hn
  have small : ∀ {m : Nat}, m ≤ 100 → m ≤ sizeLine := fun h => Nat.le_trans h (by decide)
  show wpAny _ _ (field (.ref z) 2 >>= _) _ _ _
  refine wpAny_bind (wpAny_field hz rfl (x := .bool false) rfl ?_)
  show wpAny _ _ (field (.ref z) 3 >>= _) _ _ _
  refine wpAny_bind (wpAny_field hz rfl (x := .ref TI) rfl ?_)
  refine wpAny_bind (wpAny_seqItems hTI rfl ?_)
  have hemp : (is.map Value.ref).toArray.isEmpty = false := by
    cases is with
    | nil => exact absurd hn0 (by simp)
    | cons _ _ => simp
  dsimp only
  rw [hemp]
  show wpAny _ _ (Builtin.SmallTypes.ownedTupleIsFree (.ref z) >>= _) _ _ _
  refine wpAny_bind ?_
  unfold Builtin.SmallTypes.ownedTupleIsFree
  refine wpAny_bind (wpAny_field hz rfl (x := .none) rfl (wpAny_pure ?_))
  simp only [if_true]
  refine wpAny_bind (wpAny_rule ?_)
  refine wpAny_bind (wpAny_field hz rfl (x := .ref TO) rfl ?_)
  refine wpAny_bind (wpAny_setField_rec hz (by simp) fun h₁ hz₁ hs₁ => ?_)
  replace hz₁ : IsZip h₁ z TI TO .ellipsis := hz₁
  refine wpAny_bind (wpAny_forIn_const _ (fun j s' => ∃ h', s' = { s with heap := h' } ∧ IsZip h' z TI TO .ellipsis ∧ (∃ a : Array Value, a.size = is.length ∧ IsSeqT h' TO a ∧ ∀ m, m < j → ov m = a[m]?) ∧
    ItsAt h' (fun m => if m < j then k + 1 else k) is ls ∧ h'.objs.size = s.heap.objs.size ∧ (∀ c o, c ≠ z → c ≠ TO → c ∉ is → s.heap.get? c = some o → h'.get? c = some o)) ?_ ?_ ?_)
  · rintro j x s' hx ⟨h₂, rfl, hz₂, ⟨a, ha, hTO₂, hov⟩, hi₂, hsz, hk⟩
    have hj : j < is.length := by
      have := (List.getElem?_eq_some_iff.mp hx).1
      simpa using this
    obtain ⟨i, ei⟩ : ∃ i, is[j]? = some i := ⟨_, List.getElem?_eq_getElem hj⟩
    obtain ⟨l, el⟩ : ∃ l, ls[j]? = some l := ⟨_, List.getElem?_eq_getElem (hll ▸ hj)⟩
    obtain rfl : x = (Value.ref i, j) := by
      rw [List.getElem?_zipIdx] at hx
      simp only [List.toList_toArray, List.getElem?_map, ei, Option.map_some, Nat.zero_add] at hx
      exact (Option.some.inj hx).symm
    have mi := List.mem_of_getElem? ei
    have ml := List.mem_of_getElem? el
    have hiz : i ≠ z := fun e => D.iz (e ▸ mi)
    have hiTO : i ≠ TO := fun e => D.iTO (e ▸ mi)
    have hlz : l ≠ z := fun e => D.lz (e ▸ ml)
    have hlTO : l ≠ TO := fun e => D.lTO (e ▸ ml)
    obtain ⟨xs, hxs, hxk⟩ := hl j l el
    have hxs₂ : h₂.IsList l xs := hxs.at fun o e => hk l o hlz hlTO (D.li l ml) e
    have hij : h₂.IsListIter i l k := by
      have := hi₂ j i l ei el
      dsimp only at this
      rwa [if_neg (Nat.lt_irrefl _)] at this
    refine wpAny_bind (wpAny_onRaise ?_)
    show wpAny _ _ (Builtin.SmallTypes.nextOf (.ref i) >>= _) _ _ _
    cases hv : ov j with
    | none =>
      rw [hv] at hxk
      have hh : A.handled = none := hh.elim id fun z => absurd hv (z j hj)
      refine wpAny_bind (wpAny_nextOf_list_end hh hij hxs₂ hxk fun h₃ e hs₃ he => ?_)
      obtain ⟨oe, hoe, hce⟩ := he
      have hz₃ : IsZip h₃ z TI TO .ellipsis := hs₃ _ _ (Ne.symm hiz) hz₂
      have hez : e ≠ z := fun x => by subst x; rw [hz₃] at hoe; cases hoe; simp at hce
      refine wpAny_setField_rec hz₃ (by simp) fun h₄ _ hs₄ => hE h₄ e ⟨j, hj, hv⟩ (fun c o c1 c2 c3 x => hs₄.extBut _ _ c1 (hs₃ _ _ (fun q => c3 (q ▸ mi)) (hk c o c1 c2 c3 x))) ⟨oe, hs₄.extBut _ _ hez hoe, hce⟩
    | some v =>
      rw [hv] at hxk
      refine wpAny_bind (wpAny_nextOf_list_item hij hxs₂ hxk fun h₃ hij₃ hs₃ => wpAny_pure ?_)
      have hTO₃ : IsSeqT h₃ TO a := hs₃.extBut _ _ (Ne.symm hiTO) hTO₂
      refine wpAny_bind (wpAny_seqItems hTO₃ rfl ?_)
      refine wpAny_bind (wpAny_updateSeq (f := fun y => y.setIfInBounds j v) hTO₃ rfl ?_ (by rw [ha]; exact small hn1) (by rw [Array.size_setIfInBounds, ha]; exact Nat.le_succ_of_le (small hn1)))
      have hs₄ := Heap.SameBut.update h₃ TO (Obj.mapSeq fun y => y.setIfInBounds j v)
      have hTO₄ : IsSeqT (h₃.update TO (Obj.mapSeq fun y => y.setIfInBounds j v)) TO (a.setIfInBounds j v) := by
        show _ = _
        rw [Heap.get?_update_self _ hTO₃ rfl]
        simp [Obj.mapSeq]
      refine wpAny_bind (wpAny_letGo (wpAny_pure ⟨rfl, _, rfl, ?_, ⟨_, by rw [Array.size_setIfInBounds, ha], hTO₄, fun m hm => ?_⟩, fun m i' l' em el' => ?_, ?_, fun c o c1 c2 c3 x => ?_⟩))
      · exact hs₄.extBut _ _ (Ne.symm D.TOz) (hs₃.extBut _ _ (Ne.symm hiz) hz₂)
      · by_cases c : m = j
        · subst c
          rw [hv, Array.getElem?_setIfInBounds_self_of_lt (by omega)]
        · rw [Array.getElem?_setIfInBounds_ne (by omega)]
          exact hov m (by omega)
      · have mi' := List.mem_of_getElem? em
        have iTO' : i' ≠ TO := fun e => D.iTO (e ▸ mi')
        by_cases c : m = j
        · subst c
          rw [ei] at em
          rw [el] at el'
          obtain rfl := Option.some.inj em
          obtain rfl := Option.some.inj el'
          show Heap.IsListIter _ _ _ (if _ then _ else _)
          rw [if_pos (Nat.lt_succ_self _)]
          exact hij₃.extBut hs₄.extBut iTO'
        · have e1 : (if m < j + 1 then k + 1 else k) = if m < j then k + 1 else k := by
            by_cases c2 : m < j
            · rw [if_pos c2, if_pos (by omega)]
            · rw [if_neg c2, if_neg (by omega)]
          show Heap.IsListIter _ _ _ (if _ then _ else _)
          rw [e1]
          have ne : i' ≠ i := fun e => by
            subst e
            obtain ⟨h1, e1⟩ := List.getElem?_eq_some_iff.mp em
            obtain ⟨h2, e2⟩ := List.getElem?_eq_some_iff.mp ei
            exact c ((List.getElem_inj D.nd).mp (e1.trans e2.symm))
          exact ((hi₂ m i' l' em el').extBut hs₃.extBut ne).extBut hs₄.extBut iTO'
      · rw [hs₄.1, hs₃.1, hsz]
      · exact hs₄.extBut _ _ c2 (hs₃.extBut _ _ (fun q => c3 (q ▸ mi)) (hk c o c1 c2 c3 x))
  · obtain ⟨a, ha, hTOa⟩ := hTO
    refine ⟨h₁, rfl, hz₁, ⟨a, ha, hs₁.extBut _ _ D.TOz hTOa, fun m hm => absurd hm (Nat.not_lt_zero m)⟩, fun m i l em el => ?_, hs₁.1, fun c o c1 _ _ x => hs₁.extBut _ _ c1 x⟩
    show Heap.IsListIter _ _ _ (if _ then _ else _)
    rw [if_neg (Nat.not_lt_zero m)]
    exact (hi m i l em el).extBut hs₁.extBut fun e => D.iz (e ▸ List.mem_of_getElem? em)
  · rintro s' ⟨h₅, rfl, hz₅, ⟨a, ha, hTO₅, hov⟩, hi₅, hsz, hk₅⟩
    have el : (is.map Value.ref).toArray.toList.zipIdx.length = is.length := by simp
    rw [el] at hov hi₅
    refine wpAny_bind (wpAny_seqItems hTO₅ rfl ?_)
    refine wpAny_bind (wpAny_newTuple ?_ (by rw [Array.length_toList, ha]; exact small hn1))
    have hzlt : z < h₅.objs.size := Heap.lt_size hz₅
    show wpAny _ _ (Builtin.SmallTypes.ownedTupleHandOut (.ref z) (.ref h₅.objs.size) >>= _) _ _ _
    refine wpAny_bind ?_
    unfold Builtin.SmallTypes.ownedTupleHandOut
    have hz₆ : IsZip (h₅.push { cls := .type "tuple", data := .seq a.toList.toArray }) z TI TO .ellipsis := Heap.get?_push_of_some _ hz₅
    refine wpAny_bind (wpAny_setField_rec hz₆ (by simp) fun h₇ hz₇ hs₇ => ?_)
    replace hz₇ : IsZip h₇ z TI TO (rawInt h₅.objs.size) := hz₇
    refine wpAny_setField_rec hz₇ (by simp) fun h₈ hz₈ hs₈ => ?_
    replace hz₈ : IsZip h₈ z TI TO (rawInt h₅.objs.size) := hz₈
    have up : ∀ c o, c ≠ z → h₅.get? c = some o → h₈.get? c = some o := fun c o c1 e => hs₈.extBut _ _ c1 (hs₇.extBut _ _ c1 (Heap.get?_push_of_some _ e))
    have hT₈ : IsSeqT h₈ h₅.objs.size a.toList.toArray := hs₈.extBut _ _ (Nat.ne_of_gt hzlt) (hs₇.extBut _ _ (Nat.ne_of_gt hzlt) (Heap.get?_push_size _ rfl))
    have hz8 : h₈.objs.size = h₅.objs.size + 1 := by rw [hs₈.1, hs₇.1, Heap.size_push]
    rw [hsz] at hz₈ hT₈ hz8
    refine wpAny_pure ⟨_, rfl, ?_⟩
    show Q (.ref h₅.objs.size) _
    rw [hsz]
    refine hQ h₈ a.toList (by rw [Array.length_toList, ha]) (fun m hm => by rw [hov m hm, Array.getElem?_toList]) hz₈ ?_ (fun m i l em el => ?_) hT₈ hz8 fun c o c1 c2 c3 e => up c o c1 (hk₅ c o c1 c2 c3 e)
    · rw [Array.toArray_toList]
      exact up _ _ D.TOz hTO₅
    · have := hi₅ m i l em el
      dsimp only at this
      rw [if_pos (List.getElem?_eq_some_iff.mp em).1] at this
      exact this.at fun o e => up _ o (fun q => D.iz (q ▸ List.mem_of_getElem? em)) e
theorem pyNext_zipN {z TI TO : Addr} {is ls : List Addr} {k : Nat} {ov : Nat → Option Value} {Q : Option Value → Shared → Prop} (hh : A.handled = none ∨ ∀ m, m < is.length → ov m ≠ none) (D : ApartN z TI TO is ls) (hn : 0 < is.length ∧ is.length ≤ 100) (hll : ls.length = is.length)
    (hz : IsZip s.heap z TI TO .none) (hTI : IsSeqT s.heap TI (is.map Value.ref).toArray) (hTO : ∃ a : Array Value, a.size = is.length ∧ IsSeqT s.heap TO a)
    (hi : ItsAt s.heap (fun _ => k) is ls) (hl : ∀ m l, ls[m]? = some l → ∃ xs, s.heap.IsList l xs ∧ xs[k]? = ov m)
    (hQ : ∀ h' (vs : List Value), vs.length = is.length → (∀ m, m < is.length → ov m = vs[m]?) → IsZip h' z TI TO (rawInt s.heap.objs.size) → IsSeqT h' TO vs.toArray → ItsAt h' (fun _ => k + 1) is ls → IsSeqT h' s.heap.objs.size vs.toArray → h'.objs.size = s.heap.objs.size + 1 →
      (∀ c o, c ≠ z → c ≠ TO → c ∉ is → s.heap.get? c = some o → h'.get? c = some o) → Q (some (.ref s.heap.objs.size)) { s with heap := h' })
    (hE : ∀ h', (∃ m, m < is.length ∧ ov m = none) → (∀ c o, c ≠ z → c ≠ TO → c ∉ is → s.heap.get? c = some o → h'.get? c = some o) → Q none { s with heap := h' }) :
    wpAny (model prog w) A (pyNext (.ref z)) Q E s := by
  have hT : s.TypeIs (.ref z) "zip" := ⟨_, hz, rfl⟩
  unfold pyNext
  refine wpAny_bind (wpAny_attempt (wpAny_callSpecial?_slot (name := Str.ofString "__next__") hT F.slot_zip_next
    (wpAny_call_entry F.slot_zip_next hT F.entry_zip_next (zipN_next hh D hn hll hz hTI hTO hi hl (fun h' vs a0 a1 a2 a3 a4 a5 a6 a7 => wpAny_pure (hQ h' vs a0 a1 a2 a3 a4 a5 a6 a7)) fun h' e hm hk he => ?_) (F.args_zip_next_1 _))))
  obtain ⟨o, ho, hc⟩ := he
  refine wpAny_bind (wpAny_isInstance (T := "StopIteration") (b := true) ⟨o, ho, hc⟩ isSubtype_stop ?_)
  exact wpAny_pure (hE _ hm hk)
end
/-- what stands at the k-th place of the m-th list -/
def ovOf (h : Heap) (ls : List Addr) (k m : Nat) : Option Value := (ls[m]?).bind fun l => (h.get? l).bind fun o => match o.data with
  | .seq xs _ => xs[k]?
  | _ => none
theorem ovOf_is {h : Heap} {ls : List Addr} {k m : Nat} {l : Addr} {xs : Array Value} (e : ls[m]? = some l) (hl : h.IsList l xs) : xs[k]? = ovOf h ls k m := by
  obtain ⟨o, ho, _, n, hd⟩ := hl
  unfold ovOf
  rw [e, Option.bind_some, ho, Option.bind_some, hd]
theorem vals_of : ∀ {vs : List V} {us : List Value}, vs.length = us.length → (∀ (m : Nat) v u, vs[m]? = some v → us[m]? = some u → RelV v u) → Vals vs us
  | [], [], _, _ => .nil
  | [], _ :: _, h, _ => by simp at h
  | _ :: _, [], h, _ => by simp at h
  | v :: vs, u :: us, h, r => .cons (r 0 v u rfl rfl) (vals_of (by simpa using h) fun m v' u' e1 e2 => r (m + 1) v' u' (by simpa using e1) (by simpa using e2))
theorem valsRef : ∀ (as : List Addr) {us : List Value}, Vals (as.map V.ref) us → us = as.map Value.ref
  | [], _, .nil => rfl
  | _ :: as, _, .cons r rr => by
    cases r
    rw [valsRef as rr]
    rfl
/-- the lists as they stand at each turn, the items in new tuples -/
def ItzN (K : PySem.W.Frag) (as : List Addr) : It :=
  ⟨fun i H => ∃ vs : List V, vs.length = as.length ∧ ∀ (m : Nat) a, as[m]? = some a → ∃ xs, SqL K H a xs ∧ xs[i]? = vs[m]?,
    fun i H v H' => ∃ (T : Addr) (vs : List V), v = .ref T ∧ H T = none ∧ H' = upd H T (.tup vs) ∧ vs.length = as.length ∧ ∀ (m : Nat) a xs, as[m]? = some a → SqL K H a xs → xs[i]? = vs[m]?,
    fun i H => (∀ a ∈ as, ∃ xs, SqL K H a xs) ∧ ∃ (m : Nat) (a : Addr) (xs : List V), as[m]? = some a ∧ SqL K H a xs ∧ xs.length ≤ i⟩
theorem turn_zipN {P : Program} {w : World} {K : PySem.W.Frag} {elts : List Expr} {kk : Nat} {tpos : Pos} {z TI TO : Addr} {is as : List Addr} (D : ApartN z TI TO is as) (hn : 0 < is.length ∧ is.length ≤ 100) (hll : as.length = is.length) :
    Turn P w K (.Tuple elts kk tpos) (ItzN K as) (z :: TI :: TO :: is) z (fun i h => IsZip h z TI TO .none ∧ IsSeqT h TI (is.map Value.ref).toArray ∧ (∃ a : Array Value, a.size = is.length ∧ IsSeqT h TO a) ∧ ItsAt h (fun _ => i) is as) where
  mem := by simp
  obj := fun i h st c hc => by
    obtain ⟨hz, hTI, ⟨a, _, hTO⟩, hi⟩ := st
    rcases List.mem_cons.mp hc with rfl | hc
    · exact ⟨_, hz, fun v q => nomatch q⟩
    rcases List.mem_cons.mp hc with rfl | hc
    · exact ⟨_, hTI, fun v q => nomatch q⟩
    rcases List.mem_cons.mp hc with rfl | hc
    · exact ⟨_, hTO, fun v q => nomatch q⟩
    obtain ⟨m, em⟩ := List.mem_iff_getElem?.mp hc
    have lt := (List.getElem?_eq_some_iff.mp em).1
    obtain ⟨o1, e1, _, d1⟩ := hi m c _ em (List.getElem?_eq_getElem (hll ▸ lt))
    exact ⟨o1, e1, fun v q => by rw [d1] at q; cases q⟩
  keep := fun i h h' st k => by
    obtain ⟨hz, hTI, ⟨a, ha, hTO⟩, hi⟩ := st
    exact ⟨k z (by simp) _ hz, k TI (by simp) _ hTI, ⟨a, ha, k TO (by simp) _ hTO⟩, fun m i l em el => (hi m i l em el).at fun o q => k i (by simp [List.mem_of_getElem? em]) o q⟩
  item := by
    intro X hP hw hK hc i pins s σ H E I hf st hg
    subst hP hw hK
    obtain ⟨hz, hTI, hTO, hi⟩ := st
    obtain ⟨vs, hvl, hg⟩ := hg
    have hzl : z < s.heap.objs.size := Heap.lt_size hz
    have lists : ∀ m l, as[m]? = some l → ∃ xs : Array Value, s.heap.IsList l xs ∧ xs[i]? = ovOf s.heap as i m := fun m l el => by
      obtain ⟨xs, hq, _⟩ := hg m l el
      obtain ⟨its, rv, p, _⟩ := I.list hq
      exact ⟨_, p.isList, ovOf_is el p.isList⟩
    have there : ∀ m v, vs[m]? = some v → ∃ u, ovOf s.heap as i m = some u ∧ RelV v u := fun m v ev => by
      have lt := (List.getElem?_eq_some_iff.mp ev).1
      obtain ⟨l, el⟩ : ∃ l, as[m]? = some l := ⟨_, List.getElem?_eq_getElem (hvl ▸ lt)⟩
      obtain ⟨xs, hq, hx⟩ := hg m l el
      obtain ⟨its, rv, p, _⟩ := I.list hq
      obtain ⟨u, hu, ru⟩ := rv.get (hx.trans ev)
      refine ⟨u, ?_, ru⟩
      rw [← ovOf_is el p.isList]
      simpa using hu
    have all : ∀ m, m < is.length → ovOf s.heap as i m ≠ none := fun m hm => by
      obtain ⟨u, e, _⟩ := there m _ (List.getElem?_eq_getElem (by omega))
      rw [e]
      exact nofun
    refine pyNext_zipN (.inr all) D hn hll hz hTI hTO hi lists (fun h' us hul hov z' TO' hi' hT hsz hk => ?_) fun h' hm => absurd hm.choose_spec.2 (all _ hm.choose_spec.1)
    refine ⟨_, rfl, wpAny_letOwnedTupleGo_zip (s := { s with heap := h' }) z' fun h'' z'' sb => ?_⟩
    have hT2 : h''.get? s.heap.objs.size = some { cls := .type "tuple", data := .seq us.toArray } := (sb.2 _ (Nat.ne_of_gt hzl)).trans hT
    have rel : Vals vs us := vals_of (by omega) fun m v u e1 e2 => by
      obtain ⟨u', e3, r⟩ := there m v e1
      have lt := (List.getElem?_eq_some_iff.mp e1).1
      rw [hov m (by omega), e2] at e3
      cases e3
      exact r
    have new : ObjOk X.prog X.w (upd H s.heap.objs.size (.tup vs)) h'' s.heap.objs.size (.tup vs) :=
      ⟨Nat.le_trans (show vs.length ≤ 100 by omega) (by decide), us, rel, ⟨_, hT2, rfl, _, rfl⟩⟩
    have I1 : Inv X pins σ (upd H s.heap.objs.size (.tup vs)) { s with heap := h'' } :=
      I.turnedNew (t' := s.toks) (ch := z :: TI :: TO :: is) (fun c o hb q => (sb.2 c (fun q' => hb (by simp [q']))).trans (hk c o (fun q' => hb (by simp [q'])) (fun q' => hb (by simp [q'])) (fun q' => hb (by simp [q'])) q)) hf (Nat.le_refl _) new
    refine ⟨.ref s.heap.objs.size, _, I1, rfl, ⟨_, vs, rfl, I.hok.fresh (Nat.le_refl _), rfl, hvl, fun m a xs em hq => ?_⟩, ⟨z'', ?_, ⟨us.toArray, by simpa using hul, ?_⟩, fun m i' l em el => ?_⟩, fun c hcm => ?_⟩
    · obtain ⟨xs', hq', hx'⟩ := hg m a em
      rw [I.list_inj hq hq']
      exact hx'
    · exact (sb.2 _ D.TIz).trans (hk _ _ D.TIz D.TITO D.iTI hTI)
    · exact (sb.2 _ D.TOz).trans TO'
    · exact (hi' m i' l em el).at fun o q => (sb.2 _ (fun e => D.iz (e ▸ List.mem_of_getElem? em))).trans q
    · have hlt : c < s.heap.objs.size := by
        rcases List.mem_cons.mp hcm with rfl | hcm
        · exact hzl
        rcases List.mem_cons.mp hcm with rfl | hcm
        · exact Heap.lt_size hTI
        rcases List.mem_cons.mp hcm with rfl | hcm
        · obtain ⟨_, _, e⟩ := hTO
          exact Heap.lt_size e
        obtain ⟨m, em⟩ := List.mem_iff_getElem?.mp hcm
        have lt := (List.getElem?_eq_some_iff.mp em).1
        obtain ⟨o1, e1, _⟩ := hi m c _ em (List.getElem?_eq_getElem (hll ▸ lt))
        exact Heap.lt_size e1
      rw [upd_ne (Nat.ne_of_lt hlt)]
      exact (hf c hcm).1
  done := by
    intro X hP hw hK hc i pins s σ H E I hf st hg
    subst hP hw hK
    obtain ⟨hz, hTI, hTO, hi⟩ := st
    obtain ⟨hall, m0, a0, xs0, em0, hq0, hlen0⟩ := hg
    have lists : ∀ m l, as[m]? = some l → ∃ xs : Array Value, s.heap.IsList l xs ∧ xs[i]? = ovOf s.heap as i m := fun m l el => by
      obtain ⟨xs, hq⟩ := hall l (List.mem_of_getElem? el)
      obtain ⟨its, rv, p, _⟩ := I.list hq
      exact ⟨_, p.isList, ovOf_is el p.isList⟩
    have none0 : ovOf s.heap as i m0 = none := by
      obtain ⟨its, rv, p, _⟩ := I.list hq0
      rw [← ovOf_is em0 p.isList]
      have := rv.length
      simp
      omega
    have lt0 : m0 < is.length := hll ▸ (List.getElem?_eq_some_iff.mp em0).1
    refine pyNext_zipN (.inl (I.ok.hd hc)) D hn hll hz hTI hTO hi lists (fun h' us hul hov _ _ _ _ _ _ => ?_) fun h' _ hk => ⟨rfl, I.turnedL (t' := s.toks) (ch := z :: TI :: TO :: is) (fun c o hb q =>
      hk c o (fun q' => hb (by simp [q'])) (fun q' => hb (by simp [q'])) (fun q' => hb (by simp [q'])) q) hf⟩
    have := hov m0 lt0
    rw [none0] at this
    exact absurd this.symm (by rw [List.getElem?_eq_getElem (by omega)]; exact nofun)
  self := fun A i s Q E st h => wpAny_pyIter_zip st.1 h
theorem typeCall_zip_3 (a1 a2 a3 : Value) : checkTypeCall "zip" ⟨[a1, a2, a3], []⟩ = pure () := by kernel_rfl
theorem newCall_zip_3 (a1 a2 a3 : Value) : checkBuiltinCall "zip.__new__" ⟨[.type "zip", a1, a2, a3], []⟩ = pure () := by kernel_rfl
theorem args_object_init_4 (o a1 a2 a3 : Value) : argsOk "object.__init__" ⟨[o, a1, a2, a3], []⟩ := by
  unfold argsOk; rw [signature?_of (id := "object.__init__") (n := ['_', '_', 't', 'i', 'n', 'i', '_', '_']) (o := ['t', 'c', 'e', 'j', 'b', 'o']) (by kernel_rfl) F.owner_object]; kernel_rfl
abbrev z3H1 (h : Heap) (l1 l2 l3 : Addr) : Heap := h.push { cls := .type "list_iterator", data := .fields #[.ref l1, .int 0 0] }
abbrev z3H2 (h : Heap) (l1 l2 l3 : Addr) : Heap := (z3H1 h l1 l2 l3).push { cls := .type "list_iterator", data := .fields #[.ref l2, .int 0 0] }
abbrev z3H3 (h : Heap) (l1 l2 l3 : Addr) : Heap := (z3H2 h l1 l2 l3).push { cls := .type "list_iterator", data := .fields #[.ref l3, .int 0 0] }
abbrev z3H4 (h : Heap) (l1 l2 l3 : Addr) : Heap := (z3H3 h l1 l2 l3).push { cls := .type "tuple", data := .seq #[.ref h.objs.size, .ref (z3H1 h l1 l2 l3).objs.size, .ref (z3H2 h l1 l2 l3).objs.size] }
abbrev z3H5 (h : Heap) (l1 l2 l3 : Addr) : Heap := (z3H4 h l1 l2 l3).push { cls := .type "tuple", data := .seq #[.none, .none, .none] }
abbrev z3H6 (h : Heap) (l1 l2 l3 : Addr) : Heap := (z3H5 h l1 l2 l3).push { cls := .type "zip", data := .fields #[.none, .bool false, .bool false, .ref (z3H3 h l1 l2 l3).objs.size, .ref (z3H4 h l1 l2 l3).objs.size] }
theorem meets_zip_new_3 (l1 l2 l3 : Addr) (x1 x2 x3 : Array Value) :
    Meets (Builtin.«zip.__new__» ⟨[.type "zip", .ref l1, .ref l2, .ref l3], []⟩) (fun _ R s => s.heap.IsList l1 x1 ∧ s.heap.IsList l2 x2 ∧ s.heap.IsList l3 x3 ∧
      R (.ok (.ret (.ref (z3H5 s.heap l1 l2 l3).objs.size))) { s with heap := z3H6 s.heap l1 l2 l3 }) :=
  .of_wp fun prog w A R s h => by
    obtain ⟨hp, g, d, tk, os⟩ := s; obtain ⟨g1, g2, g3, h⟩ := h
    have hsub := sub_zip
    have hL1 : Heap.IsList (Shared.heap ⟨hp, g, d, tk, os⟩) l1 x1 := g1
    have hL2 : Heap.IsList (Shared.heap ⟨(hp.push { cls := .type "list_iterator", data := .fields #[.ref l1, .int 0 0] }), g, d, tk, os⟩) l2 x2 := (Heap.IsList.push g2 _)
    have hL3 : Heap.IsList (Shared.heap ⟨((hp.push { cls := .type "list_iterator", data := .fields #[.ref l1, .int 0 0] }).push { cls := .type "list_iterator", data := .fields #[.ref l2, .int 0 0] }), g, d, tk, os⟩) l3 x3 := (Heap.IsList.push (Heap.IsList.push g3 _) _)
    wp_walk using wpAny_pyIter_list hL1, wpAny_pyIter_list hL2, wpAny_pyIter_list hL3
    exact ⟨_, rfl, h⟩
theorem call_zip_3 {prog : Program} {w : World} {A : Around} {E : Value → Shared → Prop} {s : Shared} {l1 l2 l3 : Addr} {x1 x2 x3 : Array Value} {Q : Value → Shared → Prop} (g1 : s.heap.IsList l1 x1) (g2 : s.heap.IsList l2 x2) (g3 : s.heap.IsList l3 x3)
    (h : ∀ h', IsZip h' (s.heap.objs.size + 5) (s.heap.objs.size + 3) (s.heap.objs.size + 4) .none → IsSeqT h' (s.heap.objs.size + 3) ([s.heap.objs.size, (s.heap.objs.size + 1), (s.heap.objs.size + 2)].map Value.ref).toArray → (∃ a : Array Value, a.size = 3 ∧ IsSeqT h' (s.heap.objs.size + 4) a) → ItsAt h' (fun _ => 0) [s.heap.objs.size, (s.heap.objs.size + 1), (s.heap.objs.size + 2)] [l1, l2, l3] →
      (∀ c o, s.heap.get? c = some o → h'.get? c = some o) → Q (.ref (s.heap.objs.size + 5)) { s with heap := h' }) :
    wpAny (model prog w) A (call (.type "zip") [.ref l1, .ref l2, .ref l3]) Q E s := by
  refine callType_new F.called_zip (by decide) (typeCall_zip_3 _ _ _) (newCall_zip_3 _ _ _) (fun obj => args_object_init_4 obj _ _ _) F.entry_zip_new
    (meets_zip_new_3 l1 l2 l3 x1 x2 x3) ⟨g1, g2, g3, ?_⟩
  have z1 : (z3H1 s.heap l1 l2 l3).objs.size = s.heap.objs.size + 1 := Heap.size_push ..
  have z2 : (z3H2 s.heap l1 l2 l3).objs.size = s.heap.objs.size + 2 := by rw [Heap.size_push, z1]
  have z3 : (z3H3 s.heap l1 l2 l3).objs.size = s.heap.objs.size + 3 := by rw [Heap.size_push, z2]
  have z4 : (z3H4 s.heap l1 l2 l3).objs.size = s.heap.objs.size + 4 := by rw [Heap.size_push, z3]
  have z5 : (z3H5 s.heap l1 l2 l3).objs.size = s.heap.objs.size + 5 := by rw [Heap.size_push, z4]
  have z6 : (z3H6 s.heap l1 l2 l3).objs.size = s.heap.objs.size + 6 := by rw [Heap.size_push, z5]
  have o1 : (z3H6 s.heap l1 l2 l3).get? s.heap.objs.size = some _ := (Heap.get?_push_of_some _ (Heap.get?_push_of_some _ (Heap.get?_push_of_some _ (Heap.get?_push_of_some _ (Heap.get?_push_of_some _ (Heap.get?_push_size _ rfl))))))
  have o2 : (z3H6 s.heap l1 l2 l3).get? (z3H1 s.heap l1 l2 l3).objs.size = some _ := (Heap.get?_push_of_some _ (Heap.get?_push_of_some _ (Heap.get?_push_of_some _ (Heap.get?_push_of_some _ (Heap.get?_push_size _ rfl)))))
  have o3 : (z3H6 s.heap l1 l2 l3).get? (z3H2 s.heap l1 l2 l3).objs.size = some _ := (Heap.get?_push_of_some _ (Heap.get?_push_of_some _ (Heap.get?_push_of_some _ (Heap.get?_push_size _ rfl))))
  have o4 : (z3H6 s.heap l1 l2 l3).get? (z3H3 s.heap l1 l2 l3).objs.size = some _ := (Heap.get?_push_of_some _ (Heap.get?_push_of_some _ (Heap.get?_push_size _ rfl)))
  have o5 : (z3H6 s.heap l1 l2 l3).get? (z3H4 s.heap l1 l2 l3).objs.size = some _ := (Heap.get?_push_of_some _ (Heap.get?_push_size _ rfl))
  have o6 : (z3H6 s.heap l1 l2 l3).get? (z3H5 s.heap l1 l2 l3).objs.size = some _ := (Heap.get?_push_size _ rfl)
  rw [z1] at o2
  rw [z2] at o3
  rw [z3] at o4
  rw [z4] at o5
  rw [z5] at o6
  rw [z1, z2] at o4
  rw [z3, z4] at o6
  show _ ∧ _
  rw [z5]
  refine ⟨⟨_, o6, rfl⟩, h _ o6 o4 ⟨_, rfl, o5⟩ (fun m i l em el => ?_) fun c o x => (Heap.get?_push_of_some _ (Heap.get?_push_of_some _ (Heap.get?_push_of_some _ (Heap.get?_push_of_some _ (Heap.get?_push_of_some _ (Heap.get?_push_of_some _ x))))))⟩
  match m, em, el with
  | 0, em, el => cases em; cases el; exact ⟨_, o1, rfl, rfl⟩
  | 1, em, el => cases em; cases el; exact ⟨_, o2, rfl, rfl⟩
  | 2, em, el => cases em; cases el; exact ⟨_, o3, rfl, rfl⟩
theorem apart3 {N b1 b2 b3 : Nat} (g1 : b1 < N) (g2 : b2 < N) (g3 : b3 < N) : ApartN (N + 5) (N + 3) (N + 4) [N, N + 1, N + 2] [b1, b2, b3] := by
  refine ⟨by unfold Addr; omega, by unfold Addr; omega, by unfold Addr; omega, ?_, ?_, ?_, by simp, ?_, ?_, fun l hl m => ?_⟩
  all_goals (simp only [List.mem_cons, List.not_mem_nil, or_false, not_or] at *; unfold Addr at *; omega)
theorem fresh3 {N c : Nat} (h : c ∈ (N + 5) :: (N + 3) :: (N + 4) :: [N, N + 1, N + 2]) : N ≤ c := by
  simp only [List.mem_cons, List.not_mem_nil, or_false] at h
  omega
def iZip3 (K : PySem.W.Frag) (ta : TA) : TI := fun σ H R => ta σ H fun vs H1 => ∃ b1 b2 b3 y1 y2 y3, vs = [.ref b1, .ref b2, .ref b3] ∧ SqL K H1 b1 y1 ∧ SqL K H1 b2 y2 ∧ SqL K H1 b3 y3 ∧ R (ItzN K [b1, b2, b3]) H1
theorem pi_zip3 {X : Cx} {e1 e2 e3 : Expr} {ta : TA} {p pos tpos : Pos} {elts : List Expr} {kk : Nat} (hg : Gl X "zip") (hm : X.mg "zip" = none) (ha : PA X [e1, e2, e3] ta)
    (hs : starEach [e1, e2, e3] X.env = (false, eval e1 X.env) :: starEach [e2, e3] X.env := by rfl) (hpl : (backTo pos (starEach [e2, e3] X.env)).any (·.1) = false := by rfl) :
    PI X (.Tuple elts kk tpos) (.Call (.Name "zip" p) [e1, e2, e3] [] pos) (iZip3 X.K ta) := by
  refine ⟨fun pins s σ H R I h => ?_⟩
  refine Call_ (ld_blt I hg hm PyProof.Rows.boot_zip (PyProof.Rows.callWith_type1 (thn (ha.run pos pins s σ H _ I h) fun us s1 ⟨vs, H1, I1, r1, q1⟩ => ?_) hs hpl))
  obtain ⟨b1, b2, b3, y1, y2, y3, ex, hq1, hq2, hq3, q⟩ := q1
  subst ex
  obtain rfl := valsRef [b1, b2, b3] r1
  obtain ⟨t1, rv1, p1, _⟩ := I1.list hq1
  have g1 : b1 < s1.heap.objs.size := p1.lt
  obtain ⟨t2, rv2, p2, _⟩ := I1.list hq2
  have g2 : b2 < s1.heap.objs.size := p2.lt
  obtain ⟨t3, rv3, p3, _⟩ := I1.list hq3
  have g3 : b3 < s1.heap.objs.size := p3.lt
  refine call_zip_3 p1.isList p2.isList p3.isList fun h' hz hTI hTO hi hk => wpAny_pyIter_zip hz ?_
  have I2 : Inv X pins σ H1 { s1 with heap := h' } := I1.kept (t' := s1.toks) hk
  have D := apart3 g1 g2 g3
  refine ⟨s1.heap.objs.size + 5, (s1.heap.objs.size + 5) :: (s1.heap.objs.size + 3) :: (s1.heap.objs.size + 4) :: [s1.heap.objs.size, s1.heap.objs.size + 1, s1.heap.objs.size + 2], _, _, H1, rfl, I2, turn_zipN D ⟨by simp, by simp⟩ rfl, ⟨hz, hTI, hTO, hi⟩, fun c hcm => ?_, q⟩
  have hle := fresh3 hcm
  exact I1.fpOk hle (I1.hok.fresh hle)
def iZip4 (K : PySem.W.Frag) (ta : TA) : TI := fun σ H R => ta σ H fun vs H1 => ∃ b1 b2 b3 b4 y1 y2 y3 y4, vs = [.ref b1, .ref b2, .ref b3, .ref b4] ∧ SqL K H1 b1 y1 ∧ SqL K H1 b2 y2 ∧ SqL K H1 b3 y3 ∧ SqL K H1 b4 y4 ∧ R (ItzN K [b1, b2, b3, b4]) H1
/-- an item: a new tuple of what stands at the place -/
theorem walk_zipN {K : PySem.W.Frag} {as : List Addr} {L : List (List V)} {n : Nat} (hL : L.length = as.length) (h0 : 0 < L.length) (hn : ∀ xs ∈ L, n ≤ xs.length) (he : ∃ xs ∈ L, xs.length = n) :
    Walk (ItzN K as) n (fun H => ∀ (m : Nat) a xs, as[m]? = some a → L[m]? = some xs → SqL K H a xs) (fun i H v H' => ∃ T : Addr, v = .ref T ∧ H T = none ∧ H' = upd H T (.tup (L.map fun xs => xs.getD i .non))) := by
  have item : ∀ i, i < n → ∀ (m : Nat) xs, L[m]? = some xs → xs[i]? = (L.map fun xs => xs.getD i V.non)[m]? := fun i hi m xs em => by
    have h1 := hn xs (List.mem_of_getElem? em)
    rw [List.getElem?_map, em, Option.map_some, List.getD_eq_getElem?_getD, List.getElem?_eq_getElem (by omega)]
    rfl
  have at_ : ∀ {m : Nat} {a : Addr}, as[m]? = some a → ∃ xs, L[m]? = some xs := fun {m a} em => ⟨_, List.getElem?_eq_getElem (hL ▸ (List.getElem?_eq_some_iff.mp em).1)⟩
  refine ⟨fun i H hi q => ⟨L.map fun xs => xs.getD i .non, by rw [List.length_map, hL], fun m a em => ?_⟩, fun H q => ⟨fun a ha => ?_, ?_⟩, fun i H v H' hi q ⟨T, vs, e1, e2, e3, e4, e5⟩ => ⟨T, e1, e2, ?_⟩⟩
  · obtain ⟨xs, ex⟩ := at_ em
    exact ⟨xs, q m a xs em ex, item i hi m xs ex⟩
  · obtain ⟨m, em⟩ := List.mem_iff_getElem?.mp ha
    obtain ⟨xs, ex⟩ := at_ em
    exact ⟨xs, q m a xs em ex⟩
  · obtain ⟨xs, hx, e⟩ := he
    obtain ⟨m, em⟩ := List.mem_iff_getElem?.mp hx
    obtain ⟨a, ea⟩ : ∃ a, as[m]? = some a := ⟨_, List.getElem?_eq_getElem (hL ▸ (List.getElem?_eq_some_iff.mp em).1)⟩
    exact ⟨m, a, xs, ea, q m a xs ea em, by omega⟩
  · rw [e3]
    have : vs = L.map fun xs => xs.getD i .non := by
      refine List.ext_getElem? fun m => ?_
      cases em : as[m]? with
      | none =>
        have h1 := List.getElem?_eq_none_iff.mp em
        rw [List.getElem?_eq_none (by omega), List.getElem?_eq_none (by rw [List.length_map]; omega)]
      | some a =>
        obtain ⟨xs, ex⟩ := at_ em
        rw [← e5 m a xs em (q m a xs em ex), item i hi m xs ex]
    rw [this]
theorem r_izip3 {K : PySem.W.Frag} {tas : TA} {σ : L2.St} {H : Hp} {R : It → Hp → Prop} (h : tas σ H fun vs H1 => ∃ b1 b2 b3 y1 y2 y3, vs = [.ref b1, .ref b2, .ref b3] ∧ SqL K H1 b1 y1 ∧ SqL K H1 b2 y2 ∧ SqL K H1 b3 y3 ∧ R (ItzN K [b1, b2, b3]) H1) : iZip3 K tas σ H R := h
theorem r_izip4 {K : PySem.W.Frag} {tas : TA} {σ : L2.St} {H : Hp} {R : It → Hp → Prop} (h : tas σ H fun vs H1 => ∃ b1 b2 b3 b4 y1 y2 y3 y4, vs = [.ref b1, .ref b2, .ref b3, .ref b4] ∧ SqL K H1 b1 y1 ∧ SqL K H1 b2 y2 ∧ SqL K H1 b3 y3 ∧ SqL K H1 b4 y4 ∧ R (ItzN K [b1, b2, b3, b4]) H1) : iZip4 K tas σ H R := h
theorem r_exz3 {K : PySem.W.Frag} {H : Hp} {b1 b2 b3 : Addr} {y1 y2 y3 : List V} {P : Addr → Addr → Addr → Prop} (h1 : SqL K H b1 y1) (h2 : SqL K H b2 y2) (h3 : SqL K H b3 y3) (q : P b1 b2 b3) :
    ∃ c1 c2 c3 y1 y2 y3, [V.ref b1, V.ref b2, V.ref b3] = [.ref c1, .ref c2, .ref c3] ∧ SqL K H c1 y1 ∧ SqL K H c2 y2 ∧ SqL K H c3 y3 ∧ P c1 c2 c3 := ⟨b1, b2, b3, y1, y2, y3, rfl, h1, h2, h3, q⟩
theorem r_exz4 {K : PySem.W.Frag} {H : Hp} {b1 b2 b3 b4 : Addr} {y1 y2 y3 y4 : List V} {P : Addr → Addr → Addr → Addr → Prop} (h1 : SqL K H b1 y1) (h2 : SqL K H b2 y2) (h3 : SqL K H b3 y3) (h4 : SqL K H b4 y4) (q : P b1 b2 b3 b4) :
    ∃ c1 c2 c3 c4 y1 y2 y3 y4, [V.ref b1, V.ref b2, V.ref b3, V.ref b4] = [.ref c1, .ref c2, .ref c3, .ref c4] ∧ SqL K H c1 y1 ∧ SqL K H c2 y2 ∧ SqL K H c3 y3 ∧ SqL K H c4 y4 ∧ P c1 c2 c3 c4 := ⟨b1, b2, b3, b4, y1, y2, y3, y4, rfl, h1, h2, h3, h4, q⟩
set_option Elab.async false
set_option linter.all false
set_option maxRecDepth 100000
set_option maxHeartbeats 4000000
/-- the iterator while its tuples are kept, a list at S being filled -/
def ZlSt (h : Heap) (z TI TO S : Addr) (is as : List Addr) (i : Nat) : Prop :=
  IsSeqT h TI (is.map Value.ref).toArray ∧ ItsAt h (fun _ => i) is as ∧ ((IsZip h z TI TO .none ∧ ∃ a : Array Value, a.size = is.length ∧ IsSeqT h TO a) ∨ ∃ T f oT, PySem.IsZipHeld h z TI TO T f ∧ h.get? T = some oT ∧ T ≠ z ∧ T ∉ is ∧ T ≠ S)
theorem ZlSt.keep {h h' : Heap} {z TI TO S : Addr} {is as : List Addr} {i : Nat} (x : ZlSt h z TI TO S is as i) (n : z ≠ S ∧ TI ≠ S ∧ TO ≠ S ∧ S ∉ is) (k : ∀ c o, c ≠ S → h.get? c = some o → h'.get? c = some o) : ZlSt h' z TI TO S is as i := by
  obtain ⟨hTI, hi, hz⟩ := x
  obtain ⟨n1, n2, n3, n4⟩ := n
  refine ⟨k _ _ n2 hTI, fun m i l em el => (hi m i l em el).at fun o e => k _ o (fun q => n4 (q ▸ List.mem_of_getElem? em)) e, ?_⟩
  rcases hz with ⟨hz, a, ha, hTO⟩ | ⟨T, f, oT, hz, hT, r1, r2, r3⟩
  · exact .inl ⟨k _ _ n1 hz, a, ha, k _ _ n3 hTO⟩
  · exact .inr ⟨T, f, oT, k _ _ n1 hz, k _ _ r3 hT, r1, r2, r3⟩
/-- what list(zip(..)) of lists L makes: a list at q of tuples at ts -/
structure ZOut (H1 H' : Hp) (q : Addr) (L : List (List V)) (n : Nat) (ts : List Addr) : Prop where
  new : H1 q = none
  len : ts.length = n
  lst : H' q = some (.lst (ts.map V.ref))
  nq : q ∉ ts
  nd : ts.Nodup
  tup : ∀ (j : Nat) t, ts[j]? = some t → H1 t = none ∧ H' t = some (.tup (L.map fun xs => xs.getD j V.non))
  fr : Fr [] H1 H'
/-- what the reading asks of list(zip(..)): lists of ints or whatever, the shortest of n -/
def rZipL (K : PySem.W.Frag) (m : Nat) : List V → Hp → VK → Prop := fun vs H Q => ∃ (as : List Addr) (L : List (List V)) (n : Nat), vs = as.map V.ref ∧ as.length = m ∧ L.length = m ∧ (∀ xs ∈ L, n ≤ xs.length) ∧ (∃ xs ∈ L, xs.length = n) ∧ n ≤ 100000 ∧ (∀ (m : Nat) a xs, as[m]? = some a → L[m]? = some xs → SqL K H a xs) ∧
  ∀ H' p ts, ZOut H H' p L n ts → Q (.ref p) H'
def tZipL (K : PySem.W.Frag) (m : Nat) (ta : TA) : TE := fun σ H Q => ta σ H fun vs H1 => rZipL K m vs H1 Q
theorem r_zipL {K : PySem.W.Frag} {m : Nat} {ta : TA} {σ : L2.St} {H : Hp} {Q : VK} (h : ta σ H fun vs H1 => rZipL K m vs H1 Q) : tZipL K m ta σ H Q := h
set_option Elab.async false
set_option linter.all false
set_option maxRecDepth 100000
set_option maxHeartbeats 4000000
theorem r_augS {to ti te : TE} {tget : V → V → Hp → VK → Prop} {tip : TIp} {tset : TSet} {D : Ends} {σ : L2.St} {H : Hp}
    (h : to σ H fun o H1 => ti σ H1 fun i H2 => tget o i H2 fun x H3 => te σ H3 fun y H4 => tip x y H4 fun z H5 => tset o i z H5 fun H6 => D.nx σ H6) : tAugS to ti te tget tip tset D σ H := h
theorem r_ipI {f : Int → Int → Int} {i j : Int} {H : Hp} {Q : VK} (q : Q (.int (f i j)) H) : ipI f (.int i) (.int j) H Q := ⟨i, j, rfl, rfl, q⟩
def tCallKw (n : Nat) (sp : Sp) (g : List V → List V → List V) (tk : TA) : TE := fun σ H Q => tk σ H fun zs H2 => zs.length = n ∧ sp (g [] zs) H2 Q E0
section
variable {X : Cx} {x q : Str} {st : Stmt} {ps : List Str} {k j : Nat} {sp : Sp} {p pos : Pos}
theorem pe_fK {kws : List Keyword} {tk : TA} {ks : List Str} {g : {α : Type} → List α → List α → List α} (h : Fk X.prog X.w X.K X.mg X.base x ps k sp st q) (hr : Room j X.A) (kb : KwOk x q st ps ks 0 g)
    (rel : ∀ {vs : List V} {us : List Value} {zs : List V} {ws : List Value}, Vals vs us → Vals zs ws → zs.length = ks.length → vs.length = 0 → Vals (g vs zs) (g us ws)) (hkw : PK X kws tk) (hj : k ≤ j := by decide) (hg : Gl X x := by rfl) (hdb : (x == ("__debug__" : Str)) = false := by decide)
    (hall : (backToKw pos (keywordEach kws X.env)).all (·.1.isSome) = true := by rfl) (hks : (backToKw pos (keywordEach kws X.env)).filterMap (·.1) = ks := by rfl)
    (hpl : ((backTo pos (starEach [] X.env)).any (·.1) || (backToKw pos (keywordEach kws X.env)).any (·.1.isNone)) = false := by rfl) : PE X (.Call (.Name x p) [] kws pos) (tCallKw ks.length sp g tk) := by
  obtain ⟨f, fd, F, hm, kp, b, fu⟩ := h.ex
  have to := kw_to fu kb
  refine ⟨fun pins s σ H Q I hh => wpAny_Call_Name_kw (ld_glob I hg hm ?_ hdb)⟩
  refine PySem.W.callWith_KW0 (h₀ := X.base) (first := []) I.ok.mod.kin kp hall (thn (hkw.run pos pins s σ H _ I hh) fun ws s2 ⟨zs, H2, I2, rz, hz, q2⟩ => ⟨I2.kIn, ?_⟩) hpl
  rw [hks]
  have r0 : Vals [] [] := .nil
  have r2 := rel r0 rz hz rfl
  refine wpAny_call (codeAny_mono (F.run X.A X.stack s2 H2 ⟨[], ks.zip ws⟩ (g [] ws) (g [] zs) Q E0 (hr.mono hj) I2.env0 (to s2 [] ws rfl (rz.length.symm.trans hz)) r2 q2) fun r s' hq => ?_)
  cases r with
  | error e => exact hq.elim
  | ok fl =>
    cases fl with
    | ret u => exact I2.after hq
    | next => exact False.elim hq
    | brk => exact False.elim hq
    | cont => exact False.elim hq
end
theorem r_callKw {n : Nat} {sp : Sp} {g : List V → List V → List V} {tk : TA} {σ : L2.St} {H : Hp} {Q : VK} (h : tk σ H fun zs H2 => zs.length = n ∧ sp (g [] zs) H2 Q E0) : tCallKw n sp g tk σ H Q := h
theorem r_ckw {r : List V → List V → Hp → VK → Prop} {t tk : TA} {σ : L2.St} {H : Hp} {Q : VK} (h : t σ H fun vs H1 => tk σ H1 fun zs H2 => r vs zs H2 Q) : tCKw r t tk σ H Q := h
set_option maxHeartbeats 4000000
set_option Elab.async false
set_option linter.all false
set_option maxRecDepth 100000
set_option maxHeartbeats 4000000
def gSlice (to : TE) (tl th : TO) : TG := fun v σ H Q => to σ H fun o H1 => tl σ H1 fun a H2 => th σ H2 fun c H3 => ∃ l b xs ys, ∃ i j : Int, o = .ref l ∧ v = .ref b ∧ a = some i ∧ c = some j ∧ H3 l = some (.lst xs) ∧ H3 b = some (.lst ys) ∧ l ≠ b ∧ 0 ≤ i ∧ i ≤ j ∧ j ≤ xs.length ∧ xs.length + ys.length ≤ sizeLine ∧
  Q σ (upd H3 l (.lst (xs.take i.toNat ++ ys ++ xs.drop j.toNat)))
section
variable {K : PySem.W.Frag} {σ : L2.St} {H : Hp} {Q : VK} {D : Ends}
theorem r_gsl {to : TE} {tl th : TO} {R : L2.St → Hp → Prop} {v : V} (h : to σ H fun o H1 => tl σ H1 fun a H2 => th σ H2 fun c H3 => ∃ l b xs ys, ∃ i j : Int, o = .ref l ∧ v = .ref b ∧ a = some i ∧ c = some j ∧ H3 l = some (.lst xs) ∧ H3 b = some (.lst ys) ∧ l ≠ b ∧ 0 ≤ i ∧ i ≤ j ∧ j ≤ xs.length ∧ xs.length + ys.length ≤ sizeLine ∧
  R σ (upd H3 l (.lst (xs.take i.toNat ++ ys ++ xs.drop j.toNat)))) : gSlice to tl th v σ H R := h
def tTru (K : PySem.W.Frag) (ta : TE) : TT := fun σ H Q => ta σ H fun x H' => ∃ k, TruV K x H' k ∧ Q k H'
theorem r_tru {ta : TE} {QB : Bool → Hp → Prop} (h : ta σ H fun x H' => ∃ k, TruV K x H' k ∧ QB k H') : tTru K ta σ H QB := h
theorem r_truL {p : Addr} {xs : List V} {P : Bool → Prop} (s : SqL K H p xs) (q : P (!xs.isEmpty)) : ∃ k, TruV K (.ref p) H k ∧ P k := ⟨_, .inl ⟨xs, s, rfl⟩, q⟩
theorem r_bm0 {T : String} {rr : V → List V → Hp → VK → Prop} {to : TE} (h : to σ H fun x H1 => tyV K T x H1 ∧ rr x [] H1 Q) : tBM0 K T rr to σ H Q := h
theorem r_star {te : TE} {t : TA} {R : List V → Hp → Prop} (h : te σ H fun x H1 => ∃ p xs, x = V.ref p ∧ (SqT K H1 p xs ∨ SqL K H1 p xs) ∧ t σ H1 fun ys H2 => R (xs ++ ys) H2) : StX.tStar K te t σ H R := h
theorem r_exstarT {p : Addr} {xs : List V} {P : List V → Prop} (s : SqT K H p xs) (q : P xs) : ∃ p' ys, V.ref p = V.ref p' ∧ (SqT K H p' ys ∨ SqL K H p' ys) ∧ P ys := ⟨p, xs, rfl, .inl s, q⟩
theorem r_aug {i : Nat} {te : TE} {ti : TIp} {v : V} (h : σ[i]? = some (some v)) (q : te σ H fun y H1 => ti v y H1 fun z H2 => D.nx (σ.set i (some z)) H2) : tAug i te ti D σ H := ⟨v, h, q⟩
theorem r_break (h : D.bk σ H) : tBreak D σ H := h
theorem r_cont (h : D.ct σ H) : tCont D σ H := h
end
set_option Elab.async false
set_option linter.all false
set_option maxRecDepth 100000
set_option maxHeartbeats 4000000
def top (i : Nat) : Stmt := PySem.Challenge.pw_evenbits_k54_joint_plans_and_shares.main.body.getD i (.Pass ⟨0, 0, 0, 0⟩)
abbrev s_is_whole : Stmt := top 3
theorem sc_is_whole : FnScope ["thing"] ["thing"] (defScope s_is_whole) := ⟨rfl, rfl, rfl, by decide +kernel, rfl, by decide +kernel, by decide +kernel⟩
abbrev s_is_whole_list : Stmt := top 4
theorem sc_is_whole_list : FnScope ["thing", "entry"] ["thing"] (defScope s_is_whole_list) := ⟨rfl, rfl, rfl, by decide +kernel, rfl, by decide +kernel, by decide +kernel⟩
abbrev s_is_at_most : Stmt := top 5
theorem sc_is_at_most : FnScope ["row", "other", "one", "two"] ["row", "other"] (defScope s_is_at_most) := ⟨rfl, rfl, rfl, by decide +kernel, rfl, by decide +kernel, by decide +kernel⟩
abbrev s_sums_from_zero : Stmt := top 6
theorem sc_sums_from_zero : FnScope ["row", "sums", "entry"] ["row"] (defScope s_sums_from_zero) := ⟨rfl, rfl, rfl, by decide +kernel, rfl, by decide +kernel, by decide +kernel⟩
abbrev s_Plan___init__ : Stmt := inClass (top 14) 0
theorem sc_Plan___init__ : FnScope ["self", "low", "high", "least", "most", "bounds", "numbers"] ["self", "low", "high", "least", "most"] (defScope s_Plan___init__) := ⟨rfl, rfl, rfl, by decide +kernel, rfl, by decide +kernel, by decide +kernel⟩
abbrev s_Plan_low : Stmt := inClass (top 14) 2
theorem sc_Plan_low : FnScope ["self"] ["self"] (defScope s_Plan_low) := ⟨rfl, rfl, rfl, by decide +kernel, rfl, by decide +kernel, by decide +kernel⟩
abbrev s_Plan___eq__ : Stmt := inClass (top 14) 8
theorem sc_Plan___eq__ : FnScope ["self", "other"] ["self", "other"] (defScope s_Plan___eq__) := ⟨rfl, rfl, rfl, by decide +kernel, rfl, by decide +kernel, by decide +kernel⟩
abbrev s_sums_of : Stmt := top 16
theorem sc_sums_of : FnScope ["row"] ["row"] (defScope s_sums_of) := ⟨rfl, rfl, rfl, by decide +kernel, rfl, by decide +kernel, by decide +kernel⟩
abbrev s_entries_of : Stmt := top 17
theorem sc_entries_of : FnScope ["sums", "before", "after"] ["sums"] (defScope s_entries_of) := ⟨rfl, rfl, rfl, by decide +kernel, rfl, by decide +kernel, by decide +kernel⟩
abbrev s__is_stream : Stmt := top 23
theorem sc__is_stream : FnScope ["thing", "low", "high"] ["thing"] (defScope s__is_stream) := ⟨rfl, rfl, rfl, by decide +kernel, rfl, by decide +kernel, by decide +kernel⟩
abbrev s__check_streams : Stmt := top 22
theorem sc__check_streams : FnScope ["streams", "stream", "low", "_"] ["streams"] (defScope s__check_streams) := ⟨rfl, rfl, rfl, by decide +kernel, rfl, by decide +kernel, by decide +kernel⟩
abbrev s__added : Stmt := top 25
theorem sc__added : FnScope ["rows", "row", "at"] ["rows"] (defScope s__added) := ⟨rfl, rfl, rfl, by decide +kernel, rfl, by decide +kernel, by decide +kernel⟩
abbrev s__joint_bounds : Stmt := top 24
theorem sc__joint_bounds : FnScope ["streams", "low", "_", "high"] ["streams"] (defScope s__joint_bounds) := ⟨rfl, rfl, rfl, by decide +kernel, rfl, by decide +kernel, by decide +kernel⟩
abbrev s_joint : Stmt := top 20
theorem sc_joint : FnScope ["streams", "least", "most", "low", "high"] ["streams", "least", "most"] (defScope s_joint) := ⟨rfl, rfl, rfl, by decide +kernel, rfl, by decide +kernel, by decide +kernel⟩
abbrev s_shares : Stmt := top 21
theorem sc_shares : FnScope ["streams", "row", "low", "high", "left", "told", "own_low", "own_high", "sums", "bound", "own", "amount"] ["streams", "row"] (defScope s_shares) := ⟨rfl, rfl, rfl, by decide +kernel, rfl, by decide +kernel, by decide +kernel⟩
abbrev s__law_bag : Stmt := top 27
theorem sc__law_bag : FnScope ["script", "stir", "cell"] ["script"] (defScope s__law_bag) := ⟨rfl, rfl, rfl, by decide +kernel, rfl, by decide +kernel, by decide +kernel⟩
abbrev s__law_stirred : Stmt := top 28
theorem sc__law_stirred : FnScope ["bag", "wide", "found", "k", "mixed"] ["bag", "wide"] (defScope s__law_stirred) := ⟨rfl, rfl, rfl, by decide +kernel, rfl, by decide +kernel, by decide +kernel⟩
abbrev s__law_draw : Stmt := top 29
theorem sc__law_draw : FnScope ["bag", "wide", "found"] ["bag", "wide"] (defScope s__law_draw) := ⟨rfl, rfl, rfl, by decide +kernel, rfl, by decide +kernel, by decide +kernel⟩
abbrev s__law_alike : Stmt := top 30
theorem sc__law_alike : FnScope ["found", "due", "k"] ["found", "due"] (defScope s__law_alike) := ⟨rfl, rfl, rfl, by decide +kernel, rfl, by decide +kernel, by decide +kernel⟩
abbrev s__law_sums : Stmt := top 31
theorem sc__law_sums : FnScope ["item", "found", "here", "entry"] ["item"] (defScope s__law_sums) := ⟨rfl, rfl, rfl, by decide +kernel, rfl, by decide +kernel, by decide +kernel⟩
abbrev s__law_streams : Stmt := top 32
theorem sc__law_streams : FnScope ["bag", "many", "far", "found", "times", "k", "low", "high", "here", "turn"] ["bag", "many", "far"] (defScope s__law_streams) := ⟨rfl, rfl, rfl, by decide +kernel, rfl, by decide +kernel, by decide +kernel⟩
abbrev s__law_added : Stmt := top 33
theorem sc__law_added : FnScope ["lists", "found", "numbers", "one", "two"] ["lists"] (defScope s__law_added) := ⟨rfl, rfl, rfl, by decide +kernel, rfl, by decide +kernel, by decide +kernel⟩
abbrev s__law_row : Stmt := top 34
theorem sc__law_row : FnScope ["bag", "lows", "highs", "sums", "low", "high", "one", "two"] ["bag", "lows", "highs"] (defScope s__law_row) := ⟨rfl, rfl, rfl, by decide +kernel, rfl, by decide +kernel, by decide +kernel⟩
abbrev s__law_shares_right : Stmt := top 35
theorem sc__law_shares_right : FnScope ["streams_here", "item", "told", "one", "rest", "k", "low", "high", "others", "sums", "due", "bound", "here", "less"] ["streams_here", "item"] (defScope s__law_shares_right) := ⟨rfl, rfl, rfl, by decide +kernel, rfl, by decide +kernel, by decide +kernel⟩
abbrev s_law : Stmt := top 36
theorem sc_law : FnScope ["script", "bag", "turn", "far", "some", "lows", "highs", "under", "over", "kept", "made", "k", "item", "two", "told", "low", "high", "bound"] ["script"] (defScope s_law) := ⟨rfl, rfl, rfl, by decide +kernel, rfl, by decide +kernel, by decide +kernel⟩
def fn : List Df := [
  ⟨fun K => He.ga K "is_whole", "is_whole", "is_whole", s_is_whole⟩,
  ⟨fun K => He.ga K "is_whole_list", "is_whole_list", "is_whole_list", s_is_whole_list⟩,
  ⟨fun K => He.ga K "is_at_most", "is_at_most", "is_at_most", s_is_at_most⟩,
  ⟨fun K => He.ga K "sums_from_zero", "sums_from_zero", "sums_from_zero", s_sums_from_zero⟩,
  ⟨fun K => He.ma K (He.ga K "Plan") "__init__", "__init__", "Plan.__init__", s_Plan___init__⟩,
  ⟨pgA "Plan" "low", "low", "Plan.low", s_Plan_low⟩,
  ⟨fun K => He.ma K (He.ga K "Plan") "__eq__", "__eq__", "Plan.__eq__", s_Plan___eq__⟩,
  ⟨fun K => He.ga K "sums_of", "sums_of", "sums_of", s_sums_of⟩,
  ⟨fun K => He.ga K "entries_of", "entries_of", "entries_of", s_entries_of⟩,
  ⟨fun K => He.ga K "_is_stream", "_is_stream", "_is_stream", s__is_stream⟩,
  ⟨fun K => He.ga K "_check_streams", "_check_streams", "_check_streams", s__check_streams⟩,
  ⟨fun K => He.ga K "_added", "_added", "_added", s__added⟩,
  ⟨fun K => He.ga K "_joint_bounds", "_joint_bounds", "_joint_bounds", s__joint_bounds⟩,
  ⟨fun K => He.ga K "joint", "joint", "joint", s_joint⟩,
  ⟨fun K => He.ga K "shares", "shares", "shares", s_shares⟩,
  ⟨fun K => He.ga K "_law_bag", "_law_bag", "_law_bag", s__law_bag⟩,
  ⟨fun K => He.ga K "_law_stirred", "_law_stirred", "_law_stirred", s__law_stirred⟩,
  ⟨fun K => He.ga K "_law_draw", "_law_draw", "_law_draw", s__law_draw⟩,
  ⟨fun K => He.ga K "_law_alike", "_law_alike", "_law_alike", s__law_alike⟩,
  ⟨fun K => He.ga K "_law_sums", "_law_sums", "_law_sums", s__law_sums⟩,
  ⟨fun K => He.ga K "_law_streams", "_law_streams", "_law_streams", s__law_streams⟩,
  ⟨fun K => He.ga K "_law_added", "_law_added", "_law_added", s__law_added⟩,
  ⟨fun K => He.ga K "_law_row", "_law_row", "_law_row", s__law_row⟩,
  ⟨fun K => He.ga K "_law_shares_right", "_law_shares_right", "_law_shares_right", s__law_shares_right⟩,
  ⟨fun K => He.ga K "law", "law", "law", s_law⟩]
def fa : List Fb := [.b (.free "isinstance"),
  .b (.free "bool"),
  .b (.free "int"),
  .b (.glo "is_whole"),
  .b (.free "all"),
  .b (.free "len"),
  .b (.int "MOST_TIMES" 200),
  .b (.free "list"),
  .b (.glo "is_whole_list"),
  .b (.free "zip"),
  .b (.glo "is_at_most"),
  .b (.glo "sums_from_zero"),
  .b (.free "any"),
  .b (.cls "Plan"),
  .b (.mkr "Plan"),
  .prop "Plan" "low",
  .b (.glo "Plan"),
  .b (.meth "Plan" "__eq__"),
  .b (.glo "sums_of"),
  .b (.glo "entries_of"),
  .b (.free "tuple"),
  .b (.glo "_is_stream"),
  .b (.int "MOST_STREAMS" 20),
  .b (.glo "_check_streams"),
  .b (.free "range"),
  .b (.free "sum"),
  .b (.glo "_added"),
  .b (.glo "_joint_bounds"),
  .b (.glo "joint"),
  .b (.free "min"),
  .b (.glo "shares"),
  .b (.free "abs"),
  .b (.glo "_law_bag"),
  .b (.glo "_law_stirred"),
  .b (.glo "_law_draw"),
  .b (.free "str"),
  .b (.glo "_law_alike"),
  .b (.glo "_law_sums"),
  .b (.glo "_law_streams"),
  .b (.glo "_law_added"),
  .b (.glo "_law_row"),
  .b (.glo "_law_shares_right"),
  .findB "Plan" "__ne__" "object.__ne__",
  .isi "Plan",
  .b (.glo "law"),
  .kit "Plan" "Plan" true,
  .b (.noat "Plan" "_low"),
  .b (.noat "Plan" "_high"),
  .b (.noat "Plan" "_least"),
  .b (.noat "Plan" "_most")]
set_option Elab.async false
set_option linter.all false
set_option maxRecDepth 100000
set_option maxHeartbeats 0
abbrev R : PySem.W.OpenRow := PySem.W.OpenLaw.row PySem.Challenge.rw_evenbits_k54_joint_plans_and_shares
abbrev hk : PySem.W.Hook := hookM 6 fa fn
def ob (s : PySem.W.SharedT) : He.AlD := obsMG 6 fa fn (HandSHeadRun.getT s)
theorem ob_eq (s : PySem.W.SharedT) : ob s = hk.obs s.abs := obsMG_eq (HandSHeadRun.getT_eq s)
theorem run (w : World) : HandSHeadRun.RunEq R (PySem.W.view R.prog [36]) hk ob 9000 ("_wall" :: "__name__" :: "MOST_TIMES" :: "is_whole" :: "is_whole_list" :: "is_at_most" :: "sums_from_zero" :: "EvenError" :: "InvalidPlan" :: "InvalidRow" :: "InvalidNumber" :: "InvalidStreams" :: "Plan" :: "sums_of" :: "entries_of" :: "MOST_STREAMS" :: "joint" :: "shares" :: "_check_streams" :: "_is_stream" :: "_joint_bounds" :: "_added" :: "_law_bag" :: "_law_stirred" :: "_law_draw" :: "_law_alike" :: "_law_sums" :: "_law_streams" :: "_law_added" :: "_law_row" :: "_law_shares_right" :: ([] : List PySem.Str)) w := by
  intro os
  kernel_rfl
set_option Elab.async false
set_option linter.all false
set_option maxRecDepth 100000
set_option maxHeartbeats 4000000
set_option exponentiation.threshold 3000
local macro_rules | `(tactic| walk_at "ev.mem") => `(tactic| focus (repeat (first | exact List.Mem.head _ | refine' List.Mem.tail _ ?_)))
local macro_rules | `(tactic| walk_at "ev.hg") => `(tactic| first | assumption | exact upd_same | (refine' Z.get ?z ?m; (case z => assumption); (case m => walk_at "ev.mem")) | (refine' ZJ.get ?z ?m; (case z => assumption); (case m => walk_at "ev.mem")) | (refine' Z.keep ?z ?h ?n; (case z => assumption); (case h => assumption); (case n => first | (simp; done) | (simp; first | assumption | (apply Ne.symm; assumption)))) | (refine' ZJ.keep ?z ?h ?n; (case z => assumption); (case h => assumption); (case n => first | assumption | (apply Ne.symm; assumption))))
local macro_rules | `(tactic| walk_at "ev.sq") => `(tactic| first | assumption | (apply SqL.of; walk_at "ev.hg"))
local macro_rules | `(tactic| walk_at "ev.st") => `(tactic| first | assumption | (apply SqT.of; walk_at "ev.hg"))
local macro_rules | `(tactic| walk_at "ev.sz") => `(tactic| first | exact Nat.le_of_ble_eq_true rfl | (apply small1000'; simp; done) | (apply small1000'; simp; omega) | (apply small1000'; simp only [List.length_map, List.length_append, List.length_range, List.length_reverse, List.length_cons, List.length_nil, List.length_set]; omega))
local macro_rules | `(tactic| walk_at "ev.szl") => `(tactic| first | exact Nat.le_of_ble_eq_true rfl | (apply smalllt'; simp; done) | (apply smalllt'; simp; omega) | (apply smalllt'; simp only [List.length_map, List.length_append, List.length_range, List.length_reverse, List.length_cons, List.length_nil, List.length_set]; omega))
local macro_rules | `(tactic| walk_at "ev.1") => `(tactic| with_reducible first
  | refine' r_seq ?_ | refine' r_asg ?_ | refine' r_op ?_ | (refine' r_var ?v ?_; (case v => k_dflt exact rfl)) | refine' r_c ?_ | refine' r_name ?_ | refine' r_I0 ?_
  | (refine' r_I ?c ?_; (case c => k_dflt exact pow10 (by decide)))
  | refine' r_cons ?_ | refine' r_nil ?_ | refine' r_call ?_ | refine' r_drop ?_ | refine' r_ret ?_ | refine' r_ifs ?_ | refine' r_test ?_ | refine' r_exif ?_ | refine' r_un ?_ | refine' r_U ?_
  | (refine' r_ixL ?s ?_; (case s => k_dflt walk_at "ev.sq")) | (refine' r_ixT ?s ?_; (case s => k_dflt walk_at "ev.st")) | (refine' r_at ?e ?_; (case e => k_dflt exact rfl)) | (refine' r_ixn ?e ?_; (case e => k_dflt exact rfl)) | (refine' r_ixST (r_ixT ?s ?_); (case s => k_dflt walk_at "ev.st")) | (refine' r_ixSL (r_ixL ?s ?_); (case s => k_dflt walk_at "ev.sq"))
  | refine' r_cb ?_ | refine' r_B ?_ | refine' r_and ?_ | refine' r_or ?_ | refine' r_not ?_ | refine' r_andV ?_ | refine' r_orV ?_ | refine' r_notV ?_ | refine' r_if ?_
  | refine' iteT ?_ | refine' iteF ?_ | refine' iteNT ?_ | refine' iteNF ?_ | refine' r_chain ?_
  | (refine' r_gtup ?s ?e ?_; (case s => k_dflt walk_at "ev.st"); (case e => k_dflt exact rfl)) | refine' r_gcons ?_ | refine' r_gnil ?_ | refine' r_gsub ?_
  | (refine' r_setL ?s ?_; (case s => k_dflt walk_at "ev.hg")) | refine' r_tup ?_ | refine' r_lst ?_
  | refine' r_bm ?_ | (refine' r_tyL ?s ?_; (case s => k_dflt walk_at "ev.hg")) | (refine' r_app ?s ?e ?_; (case s => k_dflt walk_at "ev.hg"); (case e => k_dflt walk_at "ev.szl"))
  | refine' r_sl ?_ | refine' r_part ?_ | refine' r_exint ?_ | refine' r_nopart ?_ | (refine' r_slL ?s ?_; (case s => k_dflt walk_at "ev.sq")) | refine' r_revL ?_ | (refine' r_exrev ?s ?_; (case s => k_dflt walk_at "ev.sq"))
  | (refine' r_eq ?e ?_; (case e => k_dflt exact rfl)) | (refine' r_ne ?e ?_; (case e => k_dflt exact rfl)) | refine' r_par ?_ | refine' r_expar ?_ | refine' r_par3 ?_ | refine' r_expar3 ?_ | refine' r_methK ?_ | refine' r_callKw ?_ | refine' r_ckw ?_ | refine' r_zipL ?_ | refine' r_augS ?_ | refine' r_ipI ?_ | refine' r_ienumS ?_ | (refine' r_sum ?s ?_; (case s => k_dflt walk_at "ev.sq")) | (refine' r_glst ?s ?e ?_; (case s => k_dflt walk_at "ev.sq"); (case e => k_dflt exact rfl))
  | (refine' r_cat ?a ?b ?e ?_; (case a => k_dflt walk_at "ev.hg"); (case b => k_dflt walk_at "ev.hg"); (case e => k_dflt walk_at "ev.sz"))
  | refine' r_for ?_ | refine' r_lc ?_ | refine' r_ilist ?_ | (refine' r_exil ?s ?_; (case s => k_dflt walk_at "ev.sq")) | refine' r_itup ?_ | (refine' r_exit ?s ?_; (case s => k_dflt walk_at "ev.st"))
  | refine' r_irng1 ?_ | refine' r_irng2 ?_ | refine' r_irng3 ?_ | refine' r_izip ?_ | refine' r_izip3 ?_ | refine' r_izip4 ?_ | (refine' r_exz3 ?a ?b ?c ?_; (case a => k_dflt walk_at "ev.sq"); (case b => k_dflt walk_at "ev.sq"); (case c => k_dflt walk_at "ev.sq")) | (refine' r_exz4 ?a ?b ?c ?d ?_; (case a => k_dflt walk_at "ev.sq"); (case b => k_dflt walk_at "ev.sq"); (case c => k_dflt walk_at "ev.sq"); (case d => k_dflt walk_at "ev.sq")) | refine' r_ienum ?_
  | (refine' r_exz ?a ?b ?_; (case a => k_dflt walk_at "ev.sq"); (case b => k_dflt walk_at "ev.sq")) | (refine' r_exen ?a ?_; (case a => k_dflt walk_at "ev.sq"))
  | refine' r_yes ?_ | (refine' r_len ?s ?_; (case s => k_dflt walk_at "ev.sq")) | (refine' r_lenT ?s ?_; (case s => k_dflt walk_at "ev.st")) | refine' r_int1 ?_ | refine' r_int2 ?_ | refine' r_int3 ?_
  | (refine' r_mk ?e ?_; (case e => k_dflt exact Nat.le_of_ble_eq_true rfl))
  | refine' r_chain3 ?_ | refine' r_tru ?_ | (refine' r_truL ?s ?_; (case s => k_dflt walk_at "ev.sq")) | refine' r_bm0 ?_ | refine' r_star ?_ | (refine' r_exstarT ?s ?_; (case s => k_dflt walk_at "ev.st")) | (refine' r_aug ?s ?_; (case s => k_dflt exact rfl)) | refine' r_break ?_ | refine' r_cont ?_ | refine' r_gsl ?_
  | refine' r_make ?_ | refine' r_meth ?_ | refine' r_prop ?_ | refine' r_fld ?_ | refine' r_sfld ?_ | refine' r_next ?_)
local macro_rules | `(tactic| walk_at "ev") => `(tactic| repeat walk_at "ev.1")
local macro_rules | `(tactic| walk_at "ev0") => `(tactic| (dsimp only [cxOf, Cx.nox]; walk_at "ev"))
section
variable {P : Program} {w : World} {K : PySem.W.Frag} {mg : Str → Option Value} {base : Heap}
theorem abs_ltB {x : Int} {n : Nat} (h0 : 0 ≤ x) (h : x < 2 ^ n) : x.natAbs < 2 ^ n := by
  have e : ((2 ^ n : Nat) : Int) = (2 : Int) ^ n := by simp
  omega
theorem Fr.at1 {H H' : Hp} {j : Addr} {o : HO} (f : Fr [j] H H') : Fr [j] H (upd H' j o) := fun x u hx e => by
  rw [upd_ne (fun z => hx (by rw [z]; exact List.mem_cons_self))]
  exact f x u hx e
def sp__law_stirred (K : PySem.W.Frag) : Sp := fun vs H Q _ => ∃ (ls j : Addr) (m : Int) (n : Nat), vs = [.ref j, .int m] ∧ JarAt ls H j (n + 1) ∧ 0 < m ∧ m < 2 ^ 1000 ∧ ∀ v H', 0 ≤ v → v < m → Fr [j] H H' → JarAt ls H' j n → Q (.int v) H'
theorem k__law_stirred (T : Tx fa fn K mg base) : Fk P w K mg base "_law_stirred" ["bag", "wide"] 1 (sp__law_stirred K) s__law_stirred "_law_stirred" := by
  refine T.fk 16 33 (q := "_law_stirred") (st := s__law_stirred) sc__law_stirred (fun _ _ _ _ _ _ us hl => match us, hl with | [_, _], _ => rfl) (fun vs H Q E h => ?_) (fun cdv A outer s H vs Q E hr h => ?_)
  · obtain ⟨ls, j, m, n, rfl, _⟩ := h
    rfl
  · obtain ⟨ls, j, m, n, rfl, ⟨ns, i, b, c, d, hj, hls, nj, hi, jb⟩, m0, m1, k⟩ := h
    have wm := abs_ltB (Int.le_of_lt m0) m1
    refine ⟨_, (pss_cons (ps_set (i := 2) sc__law_stirred.nd rfl (by first | exact Or.inl rfl | exact Or.inr rfl) pe_int)
      (pss_cons (ps_for PassesOwn.never rfl (pi_range1 (by rfl) (T.fr 24) (pa_cons (pe_op op_add pe_int (pe_op op_fdivW (pe_bits (pv 1)) pe_int)) pa_nil)) (pg_name (i := 3) sc__law_stirred.nd rfl (by first | exact Or.inl rfl | exact Or.inr rfl)) (pss_cons (ps_asg (pe_op op_add (pe_ix ix_list (pv 0) pe_int (fun _ _ => rfl)) pe_int) (pg_sub (pv 0) pe_int set_list))
      (pss_cons (ps_set (i := 4) sc__law_stirred.nd rfl (by first | exact Or.inl rfl | exact Or.inr rfl) (pe_op op_add (pe_op op_add (pe_op op_add (pe_op op_powW (pe_ix ix_list (pv 0) pe_int (fun _ _ => rfl)) pe_int) (pe_op op_mulW pe_int (pe_ix ix_list (pv 0) pe_int (fun _ _ => rfl)))) (pe_op op_mulW pe_int (pe_ix ix_list (pv 0) pe_int (fun _ _ => rfl)))) pe_int))
      (pss_cons (ps_asg (pe_op op_mod (pe_callTy call_int1 (by rfl) (T.fr 2) (by decide +kernel) (pa_cons (pv 4) pa_nil)) pe_int) (pg_sub (pv 0) pe_int set_list))
      (pss_one (ps_set (i := 2) sc__law_stirred.nd rfl (by first | exact Or.inl rfl | exact Or.inr rfl) (pe_op op_add (pe_op op_mulW (pv 2) pe_int) (pe_op op_fdivW (pe_ix ix_list (pv 0) pe_int (fun _ _ => rfl)) pe_int))))))))
      (pss_one (ps_ret (pe_op op_mod (pe_callTy call_int1 (by rfl) (T.fr 2) (by decide +kernel) (pa_cons (pv 2) pa_nil)) (pv 1)))))), ?_⟩
    walk_at "ev0"
    have bits : (Builtin.Int.intBits m : Nat) ≤ 1000 := PyProof.Rows.intBits_le wm
    refine ⟨.int m, rfl, m, rfl, ?_⟩
    generalize Builtin.Int.intBits m = B at bits ⊢
    walk_at "ev"
    refine r_I (wide_div (b := 40) (by decide) (by decide) (by decide) (by decide)) ?_
    have dB : 0 ≤ (B : Int) / 27 ∧ (B : Int) / 27 ≤ 37 := ⟨by omega, by omega⟩
    generalize (B : Int) / 27 = D at dB ⊢
    walk_at "ev"
    refine ⟨by omega, by omega, ?_⟩
    have p31 : (2 : Int) ^ 31 = 2147483648 := by decide
    have jc := jb.c1
    have jc0 := jb.c0
    have jd := jb.d0
    have jd1 := jb.d1
    refine for_it (walk_range (lo := 0)) (fun k σ H' => ∃ (fo c' d' : Int) (u3 u4 : Option V), σ = [some (.ref j), some (.int m), some (.int fo), u3, u4] ∧ Fr [j] H H' ∧ H' j = some (BagO ls i b c' d') ∧ (0 ≤ c' ∧ c' < 2147483648) ∧ (0 ≤ d' ∧ d' ≤ d + (k : Int)) ∧ 0 ≤ fo ∧ fo < (2 : Int) ^ (28 * k + 1)) ⟨0, c, d, none, none, rfl, Fr.refl _, hj, ⟨jc0, by omega⟩, ⟨jd, by omega⟩, by decide, by decide⟩ (fun _ _ _ _ _ => trivial) (fun q x σ H1 H1' hq p y => ?_) (fun σ H1 p => ?_)
    · obtain ⟨fo, c', d', u3, u4, rfl, f1, hj1, hc, hd, f0, flt⟩ := p
      obtain ⟨rfl, rfl⟩ := y
      have hq' : q < 38 := by omega
      have pw : (2 : Int) ^ (28 * (q + 1) + 1) = (2 : Int) ^ (28 * q + 1) * 268435456 := by
        rw [show 28 * (q + 1) + 1 = 28 * q + 1 + 28 by omega, Int.pow_add]
        rfl
      have fb : fo.natAbs < 2 ^ 1100 := by
        have e : (2 : Int) ^ (28 * q + 1) ≤ 2 ^ 1100 := (show ∀ q, q < 38 → (2 : Int) ^ (28 * q + 1) ≤ 2 ^ 1100 by decide +kernel) q hq'
        exact abs_ltB f0 (by omega)
      walk_at "ev"
      refine r_I (powW (b := 40) (by decide) (by decide) (natAbs_lt (by omega) (by omega)) (by decide) (by decide)) ?_
      walk_at "ev"
      refine r_I (wide_mul (a := 30) (b := 40) (by decide) (natAbs_lt (by omega) (by omega)) (by decide) (by decide) (by decide)) ?_
      walk_at "ev"
      refine r_I (wide_mul (a := 30) (b := 40) (by decide) (natAbs_lt (by omega) (by omega)) (by decide) (by decide) (by decide)) ?_
      walk_at "ev"
      refine r_I (by decide) ?_
      generalize hx : (c' ^ Int.toNat 3 + 69621 * c' + 1031 * (d' + 1) + 1) % 2147483647 = x
      have x0 : 0 ≤ x := by
        rw [← hx]
        exact Int.emod_nonneg _ (by decide)
      have x1 : x < 2147483647 := by
        rw [← hx]
        exact Int.emod_lt_of_pos _ (by decide)
      walk_at "ev"
      refine r_I (wide_mul (a := 1100) (b := 30) fb (by decide) (by decide) (by decide) (by decide)) ?_
      walk_at "ev"
      refine r_I (wide_div (b := 40) (by decide) (by decide) (by decide) (by decide)) ?_
      have xd : 0 ≤ x / 16 ∧ x / 16 < 134217728 := ⟨by omega, by omega⟩
      generalize x / 16 = y at xd ⊢
      walk_at "ev"
      exact ⟨_, _, _, _, _, rfl, f1.at1.at1, upd_same, ⟨x0, by omega⟩, ⟨by omega, by omega⟩, by omega, by rw [pw]; omega⟩
    obtain ⟨fo, c', d', u3, u4, rfl, f1, hj1, hc, hd, f0, flt⟩ := p
    walk_at "ev"
    refine r_I m0 ?_
    exact k _ _ (Int.emod_nonneg _ (by omega)) (Int.emod_lt_of_pos _ m0) f1 ⟨ns, i, b, c', d', hj1, f1 _ _ (by simpa using nj) hls, nj, hi, jb.len, jb.all, jb.b0, hc.1, by omega, hd.1, by omega⟩
def sp__law_draw (K : PySem.W.Frag) : Sp := fun vs H Q _ => ∃ (ls j : Addr) (m : Int) (n : Nat), vs = [.ref j, .int m] ∧ JarAt ls H j (n + 1) ∧ 0 < m ∧ m < 2 ^ 1000 ∧ ∀ v H', 0 ≤ v → v < m → Fr [j] H H' → JarAt ls H' j n → Q (.int v) H'
theorem k__law_draw (T : Tx fa fn K mg base) : Fk P w K mg base "_law_draw" ["bag", "wide"] 3 (sp__law_draw K) s__law_draw "_law_draw" := by
  refine T.fk 17 34 (q := "_law_draw") (st := s__law_draw) sc__law_draw (fun _ _ _ _ _ _ us hl => match us, hl with | [_, _], _ => rfl) (fun vs H Q E h => ?_) (fun cdv A outer s H vs Q E hr h => ?_)
  · obtain ⟨ls, j, m, n, rfl, _⟩ := h
    rfl
  · obtain ⟨ls, j, m, n, rfl, ⟨ns, i, b, c, d, hj, hls, nj, hi, jb⟩, m0, m1, k⟩ := h
    have wm := abs_ltB (Int.le_of_lt m0) m1
    have hln : (ns.map V.int).length = ns.length := List.length_map _
    have jc := jb.c1
    have jc0 := jb.c0
    have jd := jb.d0
    have jd1 := jb.d1
    have b0 := jb.b0
    refine ⟨_, (pss_cons (ps_if (PW.pt (pw_and (pt_cmpR op_eq (pe_ix ix_list (pv 0) pe_int (fun _ _ => rfl)) pe_int (nomark _)) (pw_and1 (pt_cmpR op_lt (pe_ix ix_list (pv 0) pe_int (fun _ _ => rfl)) (pe_callB call_len_seq (by rfl) (T.fr 5) (by decide +kernel) (pa_cons (pe_ix ix_list (pv 0) pe_int (fun _ _ => rfl)) pa_nil)) (nomark _))))) (pss_cons (ps_asg (pe_ix ix_list (pe_ix ix_list (pv 0) pe_int (fun _ _ => rfl)) (pe_ix ix_list (pv 0) pe_int (fun _ _ => rfl)) (fun _ _ => rfl)) (pg_sub (pv 0) pe_int set_list))
      (pss_one (ps_asg (pe_op op_add (pe_ix ix_list (pv 0) pe_int (fun _ _ => rfl)) pe_int) (pg_sub (pv 0) pe_int set_list)))) (pss_one (ps_if (pt_cmpR op_eq (pe_ix ix_list (pv 0) pe_int (fun _ _ => rfl)) pe_int (nomark _)) (pss_one (ps_ret (pe_f (k__law_stirred T) hr (pa_cons (pv 0) (pa_cons (pv 1) pa_nil))))) pss_nil)))
      (pss_cons (ps_set (i := 2) sc__law_draw.nd rfl (by first | exact Or.inl rfl | exact Or.inr rfl) (pe_op op_mod (pe_callTy call_int1 (by rfl) (T.fr 2) (by decide +kernel) (pa_cons (pe_ix ix_list (pv 0) pe_int (fun _ _ => rfl)) pa_nil)) (pv 1)))
      (pss_cons (ps_asg (pe_op op_fdivW (pe_ix ix_list (pv 0) pe_int (fun _ _ => rfl)) (pv 1)) (pg_sub (pv 0) pe_int set_list))
      (pss_one (ps_ret (pv 2)))))), ?_⟩
    walk_at "ev0"
    have ends : ∀ (b' : Int) (i' : Nat) (Hx : Hp), 0 ≤ b' → i' ≤ ns.length → Fr [j] H Hx → Hx j = some (BagO ls i' (b' / m) c d) → Q (.int (b' % m)) Hx := fun b' i' Hx hb' hi' fx ex =>
      k _ _ (Int.emod_nonneg _ (by omega)) (Int.emod_lt_of_pos _ m0) fx ⟨ns, i', b' / m, c, d, ex, fx _ _ (by simpa using nj) hls, nj, hi', jb.len, jb.all, Int.ediv_nonneg hb' (by omega), jc0, jc, jd, by omega⟩
    have stir : b = 0 → sp__law_stirred K [V.ref j, V.int m] H Q E0 := fun _ => ⟨ls, j, m, n, rfl, ⟨ns, i, b, c, d, hj, hls, nj, hi, jb⟩, m0, m1, k⟩
    refine r_ite (fun h0 => ?_) (fun h0 => ?_)
    · have hb0 : b = 0 := by injection h0
      walk_at "ev"
      refine r_ite (fun h1 => ?_) (fun h1 => ?_)
      · have lt : i < ns.length := by omega
        have v0 := jb.all _ (nth_mem lt)
        walk_at "ev"
        refine r_at (atI_nat (at_nth lt)) ?_
        generalize nth ns i = v at v0 ⊢
        walk_at "ev"
        refine r_I m0 ?_
        walk_at "ev"
        refine r_I (wide_div m0 wm (by decide) (by decide)) ?_
        walk_at "ev"
        exact ends v (i + 1) _ v0 lt (Fr.refl H).at1.at1.at1 upd_same
      · walk_at "ev"
        rw [decide_eq_true (show V.int b = V.int 0 by rw [hb0])]
        walk_at "ev"
        exact stir hb0
    · walk_at "ev"
      rw [decide_eq_false h0]
      walk_at "ev"
      refine r_I m0 ?_
      walk_at "ev"
      refine r_I (wide_div m0 wm (by decide) (by decide)) ?_
      walk_at "ev"
      exact ends b i _ b0 hi (Fr.refl H).at1 upd_same
theorem cut_63 {ns : List Int} (h : ns.length ≤ 63) : cutV (ns.map V.int) none (some 63) = ns.map V.int := by
  show cutV (ns.map V.int) none (some ((63 : Nat) : Int)) = _
  unfold cutV
  rw [HT.sIx_nat, HT.sIx_none, List.drop_zero, List.length_map, Nat.min_eq_right h]
  exact List.take_of_length_le (by rw [List.length_map]; omega)
def sp__law_bag (K : PySem.W.Frag) : Sp := fun vs H Q _ => ∃ (a : Addr) (ns : List Int), vs = [.ref a] ∧ SqL K H a (ns.map V.int) ∧ ns.length ≤ 63 ∧ ∀ ls p H', H p = none → Fr [] H H' → JarAt ls H' p 999000 → Q (.ref p) H'
theorem k__law_bag (T : Tx fa fn K mg base) : Fk P w K mg base "_law_bag" ["script"] 1 (sp__law_bag K) s__law_bag "_law_bag" := by
  refine T.fk 15 32 (q := "_law_bag") (st := s__law_bag) sc__law_bag (fun _ _ _ _ _ _ us hl => match us, hl with | [_], _ => rfl) (fun vs H Q E h => ?_) (fun cdv A outer s H vs Q E hr h => ?_)
  · obtain ⟨a, ns, rfl, _⟩ := h
    rfl
  · obtain ⟨a, ns, rfl, ha, hn, k⟩ := h
    have hln : (ns.map V.int).length = ns.length := List.length_map _
    refine ⟨_, (pss_cons (ps_set (i := 1) sc__law_bag.nd rfl (by first | exact Or.inl rfl | exact Or.inr rfl) pe_int)
      (pss_cons (ps_for PassesOwn.never rfl (pi_list (pe_slice sl_list (pv 0) po_none (po_some pe_int))) (pg_name (i := 2) sc__law_bag.nd rfl (by first | exact Or.inl rfl | exact Or.inr rfl)) (pss_one (ps_set (i := 1) sc__law_bag.nd rfl (by first | exact Or.inl rfl | exact Or.inr rfl) (pe_op op_mod (pe_callTy call_int1 (by rfl) (T.fr 2) (by decide +kernel) (pa_cons (pe_op op_add (pe_op op_add (pe_op op_mulW (pv 1) pe_int) (pe_op op_mod (pe_callTy call_int1 (by rfl) (T.fr 2) (by decide +kernel) (pa_cons (pv 2) pa_nil)) pe_int)) pe_int) pa_nil)) pe_int))))
      (pss_one (ps_ret (pe_lst (pa_cons (pe_lc (own := [("cell", 2)]) (tt := tYes) (te := (tOp (rI (fun _ j => 0 < j) fun i j => .int (i % j)) (tCB (fun xs H Q => (∃ i : Int, xs = [.int i] ∧ Q (.int i) H) ∨ ∃ k : Bool, xs = [.bl k] ∧ Q (.int (if k then 1 else 0)) H) (tCons (tCB (fun xs H Q => ∃ i : Int, xs = [.int i] ∧ Q (.int (if i < 0 then -i else i)) H) (tCons (tVar 2) tNil)) tNil)) (tOp (rI CPowW fun i j => .int (i ^ j.toNat)) (tOp (rI CPowW fun i j => .int (i ^ j.toNat)) (tC (.int 10)) (tC (.int 60))) (tC (.int 10))))) rfl sc__law_bag.nd (pi_list (pe_slice sl_list (pv 0) po_none (po_some pe_int))) (blkOk_by (N := ["script", "stir", "cell"]) (sc := defScope s__law_bag) (by decide +kernel)) (fun _ _ _ _ _ => (pg_name (i := 2) sc__law_bag.nd rfl (by first | exact Or.inl rfl | exact Or.inr rfl))) (fun _ _ _ _ _ => pts_nil) (fun _ _ _ _ _ => (pe_op op_mod (pe_callTy call_int1 (by rfl) (T.fr 2) (by decide +kernel) (pa_cons (pe_callB call_abs (by rfl) (T.fr 31) (by decide +kernel) (pa_cons (pv 2) pa_nil)) pa_nil)) (pe_op op_powW (pe_op op_powW pe_int pe_int) pe_int)))) (pa_cons pe_int (pa_cons pe_int (pa_cons (pv 1) (pa_cons pe_int pa_nil)))))))))), ?_⟩
    walk_at "ev0"
    rw [cut_63 hn]
    intro s1 k1
    have z1 := (Z.start0 H).alloc (.lst (ns.map V.int)) k1
    have g1 := z1.get (.head _)
    have ha1 := z1.fr0 (by simp)
    refine ⟨s1, rfl, ⟨_, SqL.of g1⟩, ?_⟩
    refine for_it (walk_list (xs := ns.map V.int)) (fun i σ H' => ∃ (st : Int) (u2 : Option V), σ = [some (.ref a), some (.int st), u2] ∧ H' = upd H s1 (.lst (ns.map V.int)) ∧ 0 ≤ st ∧ st < 2147483648) ⟨141, none, rfl, rfl, by decide, by decide⟩ (fun i σ H' _ pv => ?_) (fun i x σ H1 H1' hi pv y => ?_) (fun σ H1 pv => ?_)
    · obtain ⟨_, _, _, rfl, _⟩ := pv
      exact SqL.of g1
    · obtain ⟨st, u2, rfl, rfl, s0, s9⟩ := pv
      obtain ⟨rfl, hx⟩ := y
      obtain rfl := nth_at hx
      generalize nth ns i = x at *
      walk_at "ev"
      refine r_I (wide_mul (a := 40) (b := 30) (natAbs_lt (by omega) (by omega)) (by decide) (by decide) (by decide) (by decide)) ?_
      walk_at "ev"
      refine r_I (by decide) ?_
      walk_at "ev"
      refine r_I (by decide) ?_
      walk_at "ev"
      refine ⟨_, _, rfl, rfl, Int.emod_nonneg _ (by decide), Int.lt_trans (Int.emod_lt_of_pos _ (by decide)) (by decide)⟩
    obtain ⟨st, u2, rfl, rfl, s0, s9⟩ := pv
    have ha2 := ha1.sql ha (fun z => nomatch z)
    walk_at "ev"
    rw [cut_63 hn]
    intro s2 k2
    have z2 := z1.alloc (.lst (ns.map V.int)) k2
    have g2 := z2.get (.head _)
    walk_at "ev"
    refine lc_map (ns := ns) (fun x => (if x < 0 then -x else x) % ((10 : Int) ^ Int.toNat 60) ^ Int.toNat 10) (SqL.of g2) (by omega) (fun _ => rfl) (fun i H' R hi e kR => ?_) (fun D H1 hD e hD' => ?_)
    · have p60 : CPowW (10 ^ Int.toNat 60) 10 := powW (b := 200) (by decide) (by decide) (by decide +kernel) (by decide) (by decide)
      have p0 : (0 : Int) < ((10 : Int) ^ Int.toNat 60) ^ Int.toNat 10 := by decide +kernel
      walk_at "ev"
      refine r_I p60 ?_
      walk_at "ev"
      refine r_I p0 ?_
      walk_at "ev"
      exact kR _ (Fr.refl _)
    have z3 := z2.comp e hD hD'
    walk_at "ev"
    intro p hp
    have p0 : (0 : Int) < ((10 : Int) ^ Int.toNat 60) ^ Int.toNat 10 := by decide +kernel
    have z4 := z3.alloc (BagO D 0 0 st 0) hp
    refine k D p _ (z3.none hp) (z4.fr0 (by simp)) ⟨ns.map fun x => (if x < 0 then -x else x) % ((10 : Int) ^ Int.toNat 60) ^ Int.toNat 10, 0, 0, st, 0, upd_same, z4.get (.tail _ (.head _)), ?_, Nat.zero_le _, by rw [List.length_map]; exact hn, fun x hx => ?_, by decide, s0, by omega, by decide, by decide⟩
    · exact z4.ne 0 1 rfl rfl (by decide)
    · obtain ⟨y, _, rfl⟩ := List.mem_map.mp hx
      exact Int.emod_nonneg _ (by omega)
end
set_option Elab.async false
set_option linter.all false
set_option maxRecDepth 100000
set_option maxHeartbeats 4000000
local macro_rules | `(tactic| walk_at "ev.1") => `(tactic| with_reducible first
  | refine' r_seq ?_ | refine' r_asg ?_ | refine' r_op ?_ | (refine' r_var ?v ?_; (case v => k_dflt exact rfl)) | refine' r_c ?_ | refine' r_name ?_ | refine' r_I0 ?_
  | (refine' r_I ?c ?_; (case c => k_dflt exact pow10 (by decide)))
  | refine' r_cons ?_ | refine' r_nil ?_ | refine' r_call ?_ | refine' r_drop ?_ | refine' r_ret ?_ | refine' r_ifs ?_ | refine' r_test ?_ | refine' r_exif ?_ | refine' r_un ?_ | refine' r_U ?_
  | (refine' r_ixL ?s ?_; (case s => k_dflt walk_at "ev.sq")) | (refine' r_ixT ?s ?_; (case s => k_dflt walk_at "ev.st")) | (refine' r_at ?e ?_; (case e => k_dflt exact rfl)) | (refine' r_ixn ?e ?_; (case e => k_dflt exact rfl)) | (refine' r_ixST (r_ixT ?s ?_); (case s => k_dflt walk_at "ev.st")) | (refine' r_ixSL (r_ixL ?s ?_); (case s => k_dflt walk_at "ev.sq"))
  | refine' r_cb ?_ | refine' r_B ?_ | refine' r_and ?_ | refine' r_or ?_ | refine' r_not ?_ | refine' r_andV ?_ | refine' r_orV ?_ | refine' r_notV ?_ | refine' r_if ?_
  | refine' iteT ?_ | refine' iteF ?_ | refine' iteNT ?_ | refine' iteNF ?_ | refine' r_chain ?_
  | (refine' r_gtup ?s ?e ?_; (case s => k_dflt walk_at "ev.st"); (case e => k_dflt exact rfl)) | refine' r_gcons ?_ | refine' r_gnil ?_ | refine' r_gsub ?_
  | (refine' r_setL ?s ?_; (case s => k_dflt walk_at "ev.hg")) | refine' r_tup ?_ | refine' r_lst ?_
  | refine' r_bm ?_ | (refine' r_tyL ?s ?_; (case s => k_dflt walk_at "ev.hg")) | (refine' r_app ?s ?e ?_; (case s => k_dflt walk_at "ev.hg"); (case e => k_dflt walk_at "ev.szl"))
  | refine' r_sl ?_ | refine' r_part ?_ | refine' r_exint ?_ | refine' r_nopart ?_ | (refine' r_slL ?s ?_; (case s => k_dflt walk_at "ev.sq")) | refine' r_revL ?_ | (refine' r_exrev ?s ?_; (case s => k_dflt walk_at "ev.sq"))
  | (refine' r_eq ?e ?_; (case e => k_dflt exact rfl)) | (refine' r_ne ?e ?_; (case e => k_dflt exact rfl)) | refine' r_par ?_ | refine' r_expar ?_ | refine' r_par3 ?_ | refine' r_expar3 ?_ | refine' r_methK ?_ | refine' r_callKw ?_ | refine' r_ckw ?_ | refine' r_zipL ?_ | refine' r_augS ?_ | refine' r_ipI ?_ | refine' r_ienumS ?_ | (refine' r_sum ?s ?_; (case s => k_dflt walk_at "ev.sq")) | (refine' r_glst ?s ?e ?_; (case s => k_dflt walk_at "ev.sq"); (case e => k_dflt exact rfl))
  | (refine' r_cat ?a ?b ?e ?_; (case a => k_dflt walk_at "ev.hg"); (case b => k_dflt walk_at "ev.hg"); (case e => k_dflt walk_at "ev.sz"))
  | refine' r_for ?_ | refine' r_lc ?_ | refine' r_ilist ?_ | (refine' r_exil ?s ?_; (case s => k_dflt walk_at "ev.sq")) | refine' r_itup ?_ | (refine' r_exit ?s ?_; (case s => k_dflt walk_at "ev.st"))
  | refine' r_irng1 ?_ | refine' r_irng2 ?_ | refine' r_irng3 ?_ | refine' r_izip ?_ | refine' r_izip3 ?_ | refine' r_izip4 ?_ | (refine' r_exz3 ?a ?b ?c ?_; (case a => k_dflt walk_at "ev.sq"); (case b => k_dflt walk_at "ev.sq"); (case c => k_dflt walk_at "ev.sq")) | (refine' r_exz4 ?a ?b ?c ?d ?_; (case a => k_dflt walk_at "ev.sq"); (case b => k_dflt walk_at "ev.sq"); (case c => k_dflt walk_at "ev.sq"); (case d => k_dflt walk_at "ev.sq")) | refine' r_ienum ?_
  | (refine' r_exz ?a ?b ?_; (case a => k_dflt walk_at "ev.sq"); (case b => k_dflt walk_at "ev.sq")) | (refine' r_exen ?a ?_; (case a => k_dflt walk_at "ev.sq"))
  | refine' r_yes ?_ | (refine' r_len ?s ?_; (case s => k_dflt walk_at "ev.sq")) | (refine' r_lenT ?s ?_; (case s => k_dflt walk_at "ev.st")) | refine' r_int1 ?_ | refine' r_int2 ?_ | refine' r_int3 ?_
  | (refine' r_mk ?e ?_; (case e => k_dflt exact Nat.le_of_ble_eq_true rfl))
  | refine' r_tru ?_ | (refine' r_truL ?s ?_; (case s => k_dflt walk_at "ev.sq")) | refine' r_bm0 ?_ | refine' r_star ?_ | (refine' r_exstarT ?s ?_; (case s => k_dflt walk_at "ev.st")) | (refine' r_aug ?s ?_; (case s => k_dflt exact rfl)) | refine' r_break ?_ | refine' r_cont ?_ | refine' r_gsl ?_
  | refine' r_make ?_ | refine' r_meth ?_ | refine' r_prop ?_ | refine' r_fld ?_ | refine' r_sfld ?_ | refine' r_next ?_)
section
variable {P : Program} {w : World} {K : PySem.W.Frag} {mg : Str → Option Value} {base : Heap}
def sp_is_whole (K : PySem.W.Frag) : Sp := fun vs H Q _ => ∃ v t b1 b2, vs = [v] ∧ TyX K H v t ∧ PySem.W.kitOne K t (.type "int") = some b1 ∧ PySem.W.kitOne K t (.type "bool") = some b2 ∧ Q (.bl (b1 && !b2)) H
theorem k_is_whole (T : Tx fa fn K mg base) : Fk P w K mg base "is_whole" ["thing"] 1 (sp_is_whole K) s_is_whole "is_whole" := by
  refine T.fk 0 3 (q := "is_whole") (st := s_is_whole) sc_is_whole (fun _ _ _ _ _ _ us hl => match us, hl with | [_], _ => rfl) (fun vs H Q E h => ?_) (fun cdv A outer s H vs Q E hr h => ?_)
  · obtain ⟨v, t, b1, b2, rfl, _⟩ := h
    rfl
  · obtain ⟨v, t, b1, b2, rfl, ty, h1, h2, k⟩ := h
    refine ⟨_, (pss_one (ps_ret (pe_and (pe_callB call_isi (by rfl) (T.fr 0) (by decide +kernel) (pa_cons (pv 0) (pa_cons (pe_bltn (v := .ty "int") (u := .type "int") (by rfl) (T.fr 2) (by decide +kernel) rfl) pa_nil))) (pe_one (pe_not (pe_callB call_isi (by rfl) (T.fr 0) (by decide +kernel) (pa_cons (pv 0) (pa_cons (pe_bltn (v := .ty "bool") (u := .type "bool") (by rfl) (T.fr 1) (by decide +kernel) rfl) pa_nil)))))))), ?_⟩
    walk_at "ev0"
    refine r_isi (.ty _) ty h1 ?_
    walk_at "ev"
    cases b1 with
    | false => exact iteF k
    | true =>
      refine iteT ?_
      walk_at "ev"
      refine r_isi (.ty _) ty h2 ?_
      walk_at "ev"
      exact k
theorem whole_int {K : PySem.W.Frag} {H : Hp} {Q : VK} {i : Int} (k : Q (.bl true) H) : sp_is_whole K ([V.int i] ++ []) H Q E0 :=
  ⟨_, _, true, false, rfl, .base (.int i), kit_ty (by decide +kernel), kit_ty (by decide +kernel), k⟩
def sp_is_whole_list (K : PySem.W.Frag) : Sp := fun vs H Q _ => ∃ (a : Addr) (ns : List Int), vs = [.ref a] ∧ H a = some (.lst (ns.map V.int)) ∧ (1 ≤ ns.length ∧ ns.length ≤ 200) ∧ ∀ H', Fr [] H H' → Q (.bl true) H'
theorem k_is_whole_list (T : Tx fa fn K mg base) : Fk P w K mg base "is_whole_list" ["thing"] 2 (sp_is_whole_list K) s_is_whole_list "is_whole_list" := by
  refine T.fk 1 8 (q := "is_whole_list") (st := s_is_whole_list) sc_is_whole_list (fun _ _ _ _ _ _ us hl => match us, hl with | [_], _ => rfl) (fun vs H Q E h => ?_) (fun cdv A outer s H vs Q E hr h => ?_)
  · obtain ⟨a, ns, rfl, _⟩ := h
    rfl
  · obtain ⟨a, ns, rfl, ha, hn, k⟩ := h
    have hl : (ns.map V.int).length = ns.length := List.length_map _
    refine ⟨_, (pss_cons (ps_if (PW.pt (pw_or (pt_not (pt_val (pe_callB call_isi (by rfl) (T.fr 0) (by decide +kernel) (pa_cons (pv 0) (pa_cons (pe_bltn (v := .ty "list") (u := .type "list") (by rfl) (T.fr 7) (by decide +kernel) rfl) pa_nil))))) (pw_or1 (pt_not (pt_chain op_le op_le pe_int (pe_callB call_len_seq (by rfl) (T.fr 5) (by decide +kernel) (pa_cons (pv 0) pa_nil)) (pe_globI (T.int 6))))))) (pss_one (ps_ret pe_bl)) pss_nil)
      (pss_one (ps_ret (pe_callB (cr_all rfl) (by rfl) (T.fr 4) (by decide +kernel) (pa_cons (pe_lc (own := [("entry", 1)]) (tt := tYes) (te := (tCall (sp_is_whole K) [] E0 (tCons (tVar 1) tNil))) rfl sc_is_whole_list.nd (pi_list (pv 0)) (blkOk_by (N := ["thing", "entry"]) (sc := defScope s_is_whole_list) (by decide +kernel)) (fun _ _ _ _ _ => (pg_name (i := 1) sc_is_whole_list.nd rfl (by first | exact Or.inl rfl | exact Or.inr rfl))) (fun _ _ _ _ _ => pts_nil) (fun _ _ _ _ _ => (pe_f (k_is_whole T) hr (pa_cons (pv 1) pa_nil)))) pa_nil))))), ?_⟩
    walk_at "ev0"
    refine r_isi (.ty _) (.base (.lst ha)) (kit_ty (b := "list") (r := true) (by decide +kernel)) ?_
    walk_at "ev"
    refine r_iteY (by omega) ?_
    walk_at "ev"
    refine r_iteNY (by omega) ?_
    walk_at "ev"
    refine lc_pure (walk_list (xs := ns.map V.int)) (fun _ => .bl true) (by omega) (fun H' e => e.sql (SqL.of ha) (fun z => nomatch z)) (fun i H' x H'' y => by rw [y.1]; exact Fr.refl _) (fun i x H' H'' R hi e y kR => ?_) (fun D H' hD e hD' => ?_)
    · obtain ⟨rfl, hx⟩ := y
      rw [nth_at hx]
      walk_at "ev"
      refine ⟨rfl, ?_⟩
      walk_at "ev"
      exact whole_int (kR _ (Fr.refl _))
    · walk_at "ev"
      refine r_all (bs := (List.range (ns.map V.int).length).map fun _ => true) (SqL.of (by rw [List.map_map]; exact hD')) ?_
      have e2 : ((List.range (ns.map V.int).length).map fun _ => true).all id = true := by simp
      rw [e2]
      exact k H' e
def sp_is_at_most (K : PySem.W.Frag) : Sp := fun vs H Q _ => ∃ (a b : Addr) (ns ms : List Int), vs = [.ref a, .ref b] ∧ H a = some (.lst (ns.map V.int)) ∧ H b = some (.lst (ms.map V.int)) ∧ ns.length ≤ 10000 ∧ ∀ H', Fr [] H H' → Q (.bl (leAll ns ms)) H'
theorem k_is_at_most (T : Tx fa fn K mg base) : Fk P w K mg base "is_at_most" ["row", "other"] 1 (sp_is_at_most K) s_is_at_most "is_at_most" := by
  refine T.fk 2 10 (q := "is_at_most") (st := s_is_at_most) sc_is_at_most (fun _ _ _ _ _ _ us hl => match us, hl with | [_, _], _ => rfl) (fun vs H Q E h => ?_) (fun cdv A outer s H vs Q E hr h => ?_)
  · obtain ⟨a, b, ns, ms, rfl, _⟩ := h
    rfl
  · obtain ⟨a, b, ns, ms, rfl, ha, hb, hn, k⟩ := h
    refine ⟨_, (pss_one (ps_ret (pe_callB (cr_all rfl) (by rfl) (T.fr 4) (by decide +kernel) (pa_cons (pe_lc (own := [("one", 2), ("two", 3)]) (tt := tYes) (g := (gTup K 2 (gCons (gName 2) (gCons (gName 3) gNil)))) (te := (tOp (rI0 fun i j => .bl (decide (i ≤ j))) (tVar 2) (tVar 3))) rfl sc_is_at_most.nd (pi_zip (by rfl) (T.fr 9) (pa_cons (pv 0) (pa_cons (pv 1) pa_nil))) (blkOk_by (N := ["row", "other", "one", "two"]) (sc := defScope s_is_at_most) (by decide +kernel)) (fun _ _ _ _ _ => (pg_tup rfl (pgs_cons (pg_name (i := 2) sc_is_at_most.nd rfl (by first | exact Or.inl rfl | exact Or.inr rfl)) (pgs_cons (pg_name (i := 3) sc_is_at_most.nd rfl (by first | exact Or.inl rfl | exact Or.inr rfl)) pgs_nil)))) (fun _ _ _ _ _ => pts_nil) (fun _ _ _ _ _ => (pe_cmpR op_le (pv 2) (pv 3) (nomark _)))) pa_nil)))), ?_⟩
    walk_at "ev0"
    refine lc_pure (walk_zip (xs := ns.map V.int) (ys := ms.map V.int) (n := min ns.length ms.length) (by simp)) (fun i => .bl (decide (nth ns i ≤ nth ms i))) (by omega) (fun H' e => ⟨e.sql (SqL.of ha) (fun z => nomatch z), e.sql (SqL.of hb) (fun z => nomatch z)⟩)
      (fun i H' x H'' y => by obtain ⟨T, x1, x2, _, h0, rfl, _⟩ := y; exact (Fr.refl _).new h0) (fun i x H' H'' R hi e y kR => ?_) (fun D H' hD e hD' => ?_)
    · obtain ⟨T, x1, x2, rfl, h0, rfl, g1, g2⟩ := y
      obtain rfl := nth_at g1
      obtain rfl := nth_at g2
      have hT : SqT K (upd H' T (.tup [V.int (nth ns i), V.int (nth ms i)])) T [V.int (nth ns i), V.int (nth ms i)] := SqT.of upd_same
      walk_at "ev"
      refine ⟨rfl, ?_⟩
      walk_at "ev"
      exact kR _ (Fr.refl _)
    · walk_at "ev"
      refine r_all (bs := (List.range (min ns.length ms.length)).map fun i => decide (nth ns i ≤ nth ms i)) (SqL.of (by rw [List.map_map]; exact hD')) ?_
      have e2 : ((List.range (min ns.length ms.length)).map fun i => decide (nth ns i ≤ nth ms i)).all id = leAll ns ms := by
        rw [List.all_map]
        rfl
      rw [e2]
      exact k H' e
end
structure PD where
  L : List Int
  U : List Int
  A : List Int
  B : List Int
deriving DecidableEq
structure PD.Ok (d : PD) : Prop where
  one : 1 ≤ d.L.length
  most : d.L.length ≤ 200
  lU : d.U.length = d.L.length
  lA : d.A.length = d.L.length
  lB : d.B.length = d.L.length
  lu : ∀ i, i < d.L.length → nth d.L i ≤ nth d.U i
  ab : ∀ i, i < d.L.length → nth d.A i ≤ nth d.B i
  tot : nth d.L (d.L.length - 1) = nth d.U (d.L.length - 1)
def flds (l1 l2 l3 l4 : Addr) : List (Str × V) := putF "_most" (.ref l4) (putF "_least" (.ref l3) (putF "_high" (.ref l2) (putF "_low" (.ref l1) [])))
theorem flds_low (l1 l2 l3 l4 : Addr) : (flds l1 l2 l3 l4).lookup ("_low" : Str) = some (.ref l1) := by
  unfold flds
  rw [lookup_putF, if_neg (by decide +kernel), lookup_putF, if_neg (by decide +kernel), lookup_putF, if_neg (by decide +kernel), lookup_putF, if_pos rfl]
theorem flds_high (l1 l2 l3 l4 : Addr) : (flds l1 l2 l3 l4).lookup ("_high" : Str) = some (.ref l2) := by
  unfold flds
  rw [lookup_putF, if_neg (by decide +kernel), lookup_putF, if_neg (by decide +kernel), lookup_putF, if_pos rfl]
theorem flds_least (l1 l2 l3 l4 : Addr) : (flds l1 l2 l3 l4).lookup ("_least" : Str) = some (.ref l3) := by
  unfold flds
  rw [lookup_putF, if_neg (by decide +kernel), lookup_putF, if_pos rfl]
theorem flds_most (l1 l2 l3 l4 : Addr) : (flds l1 l2 l3 l4).lookup ("_most" : Str) = some (.ref l4) := by
  unfold flds
  rw [lookup_putF, if_pos rfl]
/-- a plan with these lists stands at p, apart from what J names -/
structure PlanAt (K : PySem.W.Frag) (J : List Addr) (H : Hp) (p : Addr) (d : PD) : Prop where
  ex : ∃ dx l1 l2 l3 l4, H p = some (.ins (He.ga K "Plan") dx (flds l1 l2 l3 l4)) ∧ (H l1 = some (.lst (d.L.map V.int)) ∧ H l2 = some (.lst (d.U.map V.int)) ∧ H l3 = some (.lst (d.A.map V.int)) ∧ H l4 = some (.lst (d.B.map V.int))) ∧
    (p ∉ J ∧ l1 ∉ J ∧ l2 ∉ J ∧ l3 ∉ J ∧ l4 ∉ J)
theorem PlanAt.mono {K : PySem.W.Frag} {J : List Addr} {H H' : Hp} {p : Addr} {d : PD} (h : PlanAt K J H p d) (f : Fr J H H') : PlanAt K J H' p d := by
  obtain ⟨dx, l1, l2, l3, l4, h0, ⟨h1, h2, h3, h4⟩, n0, n1, n2, n3, n4⟩ := h.ex
  exact ⟨dx, l1, l2, l3, l4, f _ _ n0 h0, ⟨f _ _ n1 h1, f _ _ n2 h2, f _ _ n3 h3, f _ _ n4 h4⟩, n0, n1, n2, n3, n4⟩
theorem PlanAt.nil {K : PySem.W.Frag} {J : List Addr} {H : Hp} {p : Addr} {d : PD} (h : PlanAt K J H p d) : PlanAt K [] H p d := by
  obtain ⟨dx, l1, l2, l3, l4, h0, h1, _⟩ := h.ex
  exact ⟨dx, l1, l2, l3, l4, h0, h1, (fun z => nomatch z), (fun z => nomatch z), (fun z => nomatch z), (fun z => nomatch z), fun z => nomatch z⟩
/-- a new plan -/
def NewP (K : PySem.W.Frag) (H H' : Hp) (p : Addr) (d : PD) : Prop := H p = none ∧ ∀ J, (∀ j ∈ J, ∃ o, H j = some o) → PlanAt K J H' p d
theorem NewP.at {K : PySem.W.Frag} {H H' : Hp} {p : Addr} {d : PD} (h : NewP K H H' p d) : PlanAt K [] H' p d := h.2 [] fun _ z => nomatch z
theorem NewP.at1 {K : PySem.W.Frag} {H H' : Hp} {p j : Addr} {o : HO} {d : PD} (h : NewP K H H' p d) (hj : H j = some o) : PlanAt K [j] H' p d := h.2 [j] fun x m => by
  rcases List.mem_cons.mp m with e | m
  · rw [e]
    exact ⟨o, hj⟩
  · cases m
section
variable {P : Program} {w : World} {K : PySem.W.Frag} {mg : Str → Option Value} {base : Heap}
def sp_Plan___init__ (K : PySem.W.Frag) : Sp := fun vs H Q _ => ∃ (x dx a1 a2 a3 a4 : Addr) (d : PD), vs = [.ref x, .ref a1, .ref a2, .ref a3, .ref a4] ∧ H x = some (.ins (He.ga K "Plan") dx []) ∧
  (H a1 = some (.lst (d.L.map V.int)) ∧ H a2 = some (.lst (d.U.map V.int)) ∧ H a3 = some (.lst (d.A.map V.int)) ∧ H a4 = some (.lst (d.B.map V.int))) ∧ d.Ok ∧
  ∀ H' l1 l2 l3 l4, Fr [x] H H' → (H' x = some (.ins (He.ga K "Plan") dx (flds l1 l2 l3 l4))) → (H' l1 = some (.lst (d.L.map V.int)) ∧ H' l2 = some (.lst (d.U.map V.int)) ∧ H' l3 = some (.lst (d.A.map V.int)) ∧ H' l4 = some (.lst (d.B.map V.int))) →
    (H l1 = none ∧ H l2 = none ∧ H l3 = none ∧ H l4 = none) → Q .non H'
theorem k_Plan___init__ (T : Tx fa fn K mg base) : Ini P w K mg base (He.ga K "Plan") ["self", "low", "high", "least", "most"] 3 (sp_Plan___init__ K) s_Plan___init__ "Plan.__init__" := by
  refine T.ini 4 14 (q := "Plan.__init__") (st := s_Plan___init__) sc_Plan___init__ (fun _ _ _ _ _ _ us hl => match us, hl with | [_, _, _, _, _], _ => rfl) (fun vs H Q E h => ?_) (fun cdv A outer s H vs Q E hr h => ?_)
  · obtain ⟨x, dx, a1, a2, a3, a4, d, rfl, _⟩ := h
    rfl
  · obtain ⟨x, dx, a1, a2, a3, a4, d, rfl, hx, ⟨h1, h2, h3, h4⟩, ok, k⟩ := h
    have m1 : (d.L.map V.int).length = d.L.length := List.length_map _
    have m2 : (d.U.map V.int).length = d.L.length := (List.length_map _).trans ok.lU
    have m3 : (d.A.map V.int).length = d.L.length := (List.length_map _).trans ok.lA
    have m4 : (d.B.map V.int).length = d.L.length := (List.length_map _).trans ok.lB
    refine ⟨_, (pss_cons (ps_set (i := 5) sc_Plan___init__.nd rfl (by first | exact Or.inl rfl | exact Or.inr rfl) (pe_tup (pa_cons (pv 1) (pa_cons (pv 2) (pa_cons (pv 3) (pa_cons (pv 4) pa_nil))))))
      (pss_cons (ps_if (pt_not (pt_val (pe_callB (cr_all rfl) (by rfl) (T.fr 4) (by decide +kernel) (pa_cons (pe_lc (own := [("numbers", 6)]) (tt := tYes) (te := (tCall (sp_is_whole_list K) [] E0 (tCons (tVar 6) tNil))) rfl sc_Plan___init__.nd (pi_tup (pv 5)) (blkOk_by (N := ["self", "low", "high", "least", "most", "bounds", "numbers"]) (sc := defScope s_Plan___init__) (by decide +kernel)) (fun _ _ _ _ _ => (pg_name (i := 6) sc_Plan___init__.nd rfl (by first | exact Or.inl rfl | exact Or.inr rfl))) (fun _ _ _ _ _ => pts_nil) (fun _ _ _ _ _ => (pe_f (k_is_whole_list T) hr (pa_cons (pv 6) pa_nil)))) pa_nil)))) (pss_one ps_never) pss_nil)
      (pss_cons (ps_if (pt_val (pe_callB (cr_any rfl) (by rfl) (T.fr 12) (by decide +kernel) (pa_cons (pe_lc (own := [("numbers", 6)]) (tt := tYes) (te := (tOp rNe (tCB (rLenX K) (tCons (tVar 6) tNil)) (tCB (rLenX K) (tCons (tVar 1) tNil)))) rfl sc_Plan___init__.nd (pi_tup (pv 5)) (blkOk_by (N := ["self", "low", "high", "least", "most", "bounds", "numbers"]) (sc := defScope s_Plan___init__) (by decide +kernel)) (fun _ _ _ _ _ => (pg_name (i := 6) sc_Plan___init__.nd rfl (by first | exact Or.inl rfl | exact Or.inr rfl))) (fun _ _ _ _ _ => pts_nil) (fun _ _ _ _ _ => (pe_cmpR op_ne (pe_callB call_len_seq (by rfl) (T.fr 5) (by decide +kernel) (pa_cons (pv 6) pa_nil)) (pe_callB call_len_seq (by rfl) (T.fr 5) (by decide +kernel) (pa_cons (pv 1) pa_nil)) (nomark _)))) pa_nil))) (pss_one ps_never) pss_nil)
      (pss_cons (ps_if (PW.pt (pw_or (pt_not (pt_val (pe_f (k_is_at_most T) hr (pa_cons (pv 1) (pa_cons (pv 2) pa_nil))))) (pw_or1 (pt_not (pt_val (pe_f (k_is_at_most T) hr (pa_cons (pv 3) (pa_cons (pv 4) pa_nil)))))))) (pss_one ps_never) pss_nil)
      (pss_cons (ps_if (pt_cmpR op_ne (pe_ix ix_list (pv 1) (pe_un un_neg pe_int) (fun _ _ => rfl)) (pe_ix ix_list (pv 2) (pe_un un_neg pe_int) (fun _ _ => rfl)) (nomark _)) (pss_one ps_never) pss_nil)
      (pss_cons (ps_fld (pv 0) (pe_callTy call_list_of (by rfl) (T.fr 7) (by decide +kernel) (pa_cons (pv 1) pa_nil)) rfl)
      (pss_cons (ps_fld (pv 0) (pe_callTy call_list_of (by rfl) (T.fr 7) (by decide +kernel) (pa_cons (pv 2) pa_nil)) rfl)
      (pss_cons (ps_fld (pv 0) (pe_callTy call_list_of (by rfl) (T.fr 7) (by decide +kernel) (pa_cons (pv 3) pa_nil)) rfl)
      (pss_one (ps_fld (pv 0) (pe_callTy call_list_of (by rfl) (T.fr 7) (by decide +kernel) (pa_cons (pv 4) pa_nil)) rfl)))))))))), ?_⟩
    have n1 := ne_of h1 hx (by intro z; cases z)
    have n2 := ne_of h2 hx (by intro z; cases z)
    have n3 := ne_of h3 hx (by intro z; cases z)
    have n4 := ne_of h4 hx (by intro z; cases z)
    have four : ∀ (i : Nat) (x : V), [V.ref a1, V.ref a2, V.ref a3, V.ref a4][i]? = some x → ∃ (a : Addr) (ns : List Int), x = .ref a ∧ H a = some (.lst (ns.map V.int)) ∧ ns.length = d.L.length := by
      intro i x h
      match i, h with
      | 0, h => exact ⟨a1, d.L, (Option.some.inj h).symm, h1, rfl⟩
      | 1, h => exact ⟨a2, d.U, (Option.some.inj h).symm, h2, ok.lU⟩
      | 2, h => exact ⟨a3, d.A, (Option.some.inj h).symm, h3, ok.lA⟩
      | 3, h => exact ⟨a4, d.B, (Option.some.inj h).symm, h4, ok.lB⟩
    have one := ok.one
    have most := ok.most
    have lU := ok.lU
    have lA := ok.lA
    have lB := ok.lB
    walk_at "ev0"
    intro b hb
    have f1 : Fr [] H (upd H b (.tup [.ref a1, .ref a2, .ref a3, .ref a4])) := (Fr.refl H).new hb
    have t1 : (upd H b (.tup [.ref a1, .ref a2, .ref a3, .ref a4])) b = some (.tup [.ref a1, .ref a2, .ref a3, .ref a4]) := upd_same
    generalize upd H b (.tup [.ref a1, .ref a2, .ref a3, .ref a4]) = Ha at f1 t1 ⊢
    walk_at "ev"
    -- all four are lists of integers
    refine lc_pure (walk_tup (xs := [.ref a1, .ref a2, .ref a3, .ref a4])) (fun _ => .bl true) (by simp) (fun H' e => SqT.of (e _ _ (fun z => nomatch z) t1)) (fun i H' x H'' y => by rw [y.1]; exact Fr.refl _) (fun i x H' H'' R hi e y kR => ?_) (fun D H' hD e hD' => ?_)
    · obtain ⟨rfl, hx⟩ := y
      obtain ⟨a, ns, rfl, ha, hn⟩ := four i x hx
      walk_at "ev"
      refine ⟨rfl, ?_⟩
      walk_at "ev"
      exact ⟨a, ns, rfl, (f1.trans e) _ _ (fun z => nomatch z) ha, by omega, fun H4 e4 => kR H4 e4⟩
    walk_at "ev"
    refine r_allB (bs := [true, true, true, true]) (b := true) (SqL.of hD') rfl ?_
    walk_at "ev"
    have f2 : Fr [] H H' := f1.trans e
    have t2 := e _ _ (fun z => nomatch z) t1
    clear e hD' hD D f1 t1
    clear hb
    walk_at "ev"
    -- all are equally long
    refine lc_pure (walk_tup (xs := [.ref a1, .ref a2, .ref a3, .ref a4])) (fun _ => .bl false) (by simp) (fun H' e => SqT.of (e _ _ (fun z => nomatch z) t2)) (fun i H' x H'' y => by rw [y.1]; exact Fr.refl _) (fun i x H' H'' R hi e y kR => ?_) (fun D H2 hD e hD' => ?_)
    · obtain ⟨rfl, hx⟩ := y
      obtain ⟨a, ns, rfl, ha, hn⟩ := four i x hx
      walk_at "ev"
      refine ⟨rfl, ?_⟩
      have g1 := (f2.trans e) _ _ (fun z => nomatch z) h1
      have g2 := (f2.trans e) _ _ (fun z => nomatch z) ha
      walk_at "ev"
      have q : (!decide (V.int ((ns.map V.int).length : Int) = V.int ((d.L.map V.int).length : Int))) = false := by
        rw [List.length_map, List.length_map, hn, decide_eq_true rfl]
        rfl
      rw [q]
      exact kR _ (Fr.refl _)
    walk_at "ev"
    refine r_anyB (bs := [false, false, false, false]) (b := false) (SqL.of hD') rfl ?_
    walk_at "ev"
    have f3 : Fr [] H H2 := f2.trans e
    clear e hD' hD D f2 t2
    walk_at "ev"
    -- no bound is above
    refine ⟨a1, a2, d.L, d.U, rfl, f3 _ _ (fun z => nomatch z) h1, f3 _ _ (fun z => nomatch z) h2, by omega, fun H3 e3 => ?_⟩
    rw [leAll_of ok.lu]
    have f4 : Fr [] H H3 := f3.trans e3
    walk_at "ev"
    refine ⟨a3, a4, d.A, d.B, rfl, f4 _ _ (fun z => nomatch z) h3, f4 _ _ (fun z => nomatch z) h4, by omega, fun H4 e4 => ?_⟩
    rw [leAll_of (fun i hi => ok.ab i (by have := ok.lA; omega))]
    have f5 : Fr [] H H4 := f4.trans e4
    have g1 := f5 _ _ (fun z => nomatch z) h1
    have g2 := f5 _ _ (fun z => nomatch z) h2
    walk_at "ev"
    refine r_at (atI_end (ns := d.L) (by omega)) ?_
    walk_at "ev"
    refine r_at (atI_end (ns := d.U) (by omega)) ?_
    walk_at "ev"
    have q : V.int (nth d.L (d.L.length - 1)) = V.int (nth d.U (d.U.length - 1)) := by rw [ok.lU, ok.tot]
    refine r_iteNY q ?_
    walk_at "ev"
    have z0 : Z H H4 [(1, x, .ins (He.ga K "Plan") dx [])] := ((Z.start0 H).old 1 (by decide) hx fun _ z => nomatch z).same f5
    have on1 : ∀ {Hc : Hp} {E : List En}, Z H Hc E → (∀ q ∈ E, q.1 = 1 → q.2.1 = x) → Fr [x] H Hc := fun z h => z.fr1 h
    have away : ∀ {a : Addr}, a ≠ x → a ∉ [x] := fun h m => by
      rcases List.mem_cons.mp m with e | m
      · exact h e
      · cases m
    -- self._low = list(low)
    intro l1 k1
    have z1 := z0.alloc (.lst (d.L.map V.int)) k1
    walk_at "ev"
    refine r_exsfld (z1.get (.tail _ (.head _))) (T.cls 13) (T.noat 46) (by show 0 < 1000; decide) ?_
    have z2 := z1.set 1 (.ins (He.ga K "Plan") dx (putF "_low" (.ref l1) [])) rfl (.inl rfl)
    have g2 := on1 z2 (by simp) _ _ (away n2) h2
    walk_at "ev"
    -- self._high = list(high)
    intro l2 k2
    have z3 := z2.alloc (.lst (d.U.map V.int)) k2
    walk_at "ev"
    refine r_exsfld (z3.get (.tail _ (.tail _ (.head _)))) (T.cls 13) (T.noat 47) (by show 1 < 1000; decide) ?_
    have z4 := z3.set 2 (.ins (He.ga K "Plan") dx (putF "_high" (.ref l2) (putF "_low" (.ref l1) []))) rfl (.inl rfl)
    have g3 := on1 z4 (by simp) _ _ (away n3) h3
    walk_at "ev"
    -- self._least = list(least)
    intro l3 k3
    have z5 := z4.alloc (.lst (d.A.map V.int)) k3
    walk_at "ev"
    refine r_exsfld (z5.get (.tail _ (.tail _ (.tail _ (.head _))))) (T.cls 13) (T.noat 48) (by show 2 < 1000; decide) ?_
    have z6 := z5.set 3 (.ins (He.ga K "Plan") dx (putF "_least" (.ref l3) (putF "_high" (.ref l2) (putF "_low" (.ref l1) [])))) rfl (.inl rfl)
    have g4 := on1 z6 (by simp) _ _ (away n4) h4
    walk_at "ev"
    -- self._most = list(most)
    intro l4 k4
    have z7 := z6.alloc (.lst (d.B.map V.int)) k4
    walk_at "ev"
    refine r_exsfld (z7.get (.tail _ (.tail _ (.tail _ (.tail _ (.head _)))))) (T.cls 13) (T.noat 49) (by show 3 < 1000; decide) ?_
    have z8 := z7.set 4 (.ins (He.ga K "Plan") dx (flds l1 l2 l3 l4)) rfl (.inl rfl)
    exact k _ l1 l2 l3 l4 (on1 z8 (by simp)) (z8.get (.tail _ (.tail _ (.tail _ (.tail _ (.head _)))))) ⟨z8.get (.tail _ (.tail _ (.tail _ (.head _)))), z8.get (.tail _ (.tail _ (.head _))), z8.get (.tail _ (.head _)), z8.get (.head _)⟩
      ⟨z8.fresh (2, l1, _) (.tail _ (.tail _ (.tail _ (.head _)))) rfl, z8.fresh (2, l2, _) (.tail _ (.tail _ (.head _))) rfl, z8.fresh (2, l3, _) (.tail _ (.head _)) rfl, z8.fresh (2, l4, _) (.head _) rfl⟩
end
set_option Elab.async false
set_option linter.all false
set_option maxRecDepth 100000
set_option maxHeartbeats 4000000
theorem dpAll_ints {K : PySem.W.Frag} {H : Hp} : ∀ ns : List Int, DpAll K H (ns.map V.int) (ns.map PyData.int)
  | [] => .nil
  | n :: r => .cons (.int n) (dpAll_ints r)
theorem canLay_ints : ∀ ns : List Int, PyData.canLayAll0 (ns.map PyData.int) = true
  | [] => rfl
  | n :: r => by
    rw [List.map_cons, PyData.canLayAll0, canLay_ints r]
    rfl
theorem depth_ints : ∀ ns : List Int, PyData.depthAll (ns.map PyData.int) = 0
  | [] => rfl
  | n :: r => by
    rw [List.map_cons, PyData.depthAll, depth_ints r]
    rfl
theorem shaped_ints (ns : List Int) : SeqAt.shaped (.list (ns.map PyData.int)) = true := by
  unfold SeqAt.shaped
  rw [PyData.canLay0, canLay_ints, PyData.depth, depth_ints]
  rfl
theorem r_eqI {K : PySem.W.Frag} {H : Hp} {Q : VK} {a b : Addr} {ns ms : List Int} (ha : SqL K H a (ns.map V.int)) (hb : SqL K H b (ms.map V.int)) (q : Q (.bl (decide (ns = ms))) H) : rEqD K (.ref a) (.ref b) H Q := by
  refine ⟨.list (ns.map PyData.int), .list (ms.map PyData.int), .lst ha (dpAll_ints ns), .lst hb (dpAll_ints ms), shaped_ints ns, shaped_ints ms, ?_⟩
  rw [PyData.eqv, PySem.W.ked_eqvAll]
  exact q
section
variable {P : Program} {w : World} {K : PySem.W.Frag} {mg : Str → Option Value} {base : Heap}
abbrev CP (K : PySem.W.Frag) : Addr := He.ga K "Plan"
theorem r_low (T : Tx fa fn K mg base) {H : Hp} {p dx l1 l2 l3 l4 : Addr} {R : V → Prop} (h : H p = some (.ins (CP K) dx (flds l1 l2 l3 l4))) (q : R (.ref l1)) :
    ∃ b C dx fs v, V.ref p = .ref b ∧ H b = some (.ins C dx fs) ∧ Cls K C ∧ NoAttr K C "_low" ∧ fs.lookup ("_low" : Str) = some v ∧ R v := r_exfld h (T.cls 13) (T.noat 46) (flds_low _ _ _ _) q
theorem r_high (T : Tx fa fn K mg base) {H : Hp} {p dx l1 l2 l3 l4 : Addr} {R : V → Prop} (h : H p = some (.ins (CP K) dx (flds l1 l2 l3 l4))) (q : R (.ref l2)) :
    ∃ b C dx fs v, V.ref p = .ref b ∧ H b = some (.ins C dx fs) ∧ Cls K C ∧ NoAttr K C "_high" ∧ fs.lookup ("_high" : Str) = some v ∧ R v := r_exfld h (T.cls 13) (T.noat 47) (flds_high _ _ _ _) q
theorem r_least (T : Tx fa fn K mg base) {H : Hp} {p dx l1 l2 l3 l4 : Addr} {R : V → Prop} (h : H p = some (.ins (CP K) dx (flds l1 l2 l3 l4))) (q : R (.ref l3)) :
    ∃ b C dx fs v, V.ref p = .ref b ∧ H b = some (.ins C dx fs) ∧ Cls K C ∧ NoAttr K C "_least" ∧ fs.lookup ("_least" : Str) = some v ∧ R v := r_exfld h (T.cls 13) (T.noat 48) (flds_least _ _ _ _) q
theorem r_most (T : Tx fa fn K mg base) {H : Hp} {p dx l1 l2 l3 l4 : Addr} {R : V → Prop} (h : H p = some (.ins (CP K) dx (flds l1 l2 l3 l4))) (q : R (.ref l4)) :
    ∃ b C dx fs v, V.ref p = .ref b ∧ H b = some (.ins C dx fs) ∧ Cls K C ∧ NoAttr K C "_most" ∧ fs.lookup ("_most" : Str) = some v ∧ R v := r_exfld h (T.cls 13) (T.noat 49) (flds_most _ _ _ _) q
def sp_list (K : PySem.W.Frag) (f : PD → List Int) : Sp := fun vs H Q _ => ∃ (p : Addr) (d : PD), vs = [.ref p] ∧ PlanAt K [] H p d ∧ ∀ l, H l = none → Q (.ref l) (upd H l (.lst ((f d).map V.int)))
abbrev sp_Plan_low (K : PySem.W.Frag) : Sp := sp_list K PD.L
theorem k_Plan_low (T : Tx fa fn K mg base) : Prp P w K mg base (He.ga K "Plan") "low" 1 (sp_Plan_low K) := by
  refine T.prp 5 15 13 (q := "Plan.low") (st := s_Plan_low) sc_Plan_low (fun _ _ _ _ _ _ us hl => match us, hl with | [_], _ => rfl) (fun vs H Q E h => ?_) (fun cdv A outer s H vs Q E hr h => ?_)
  · obtain ⟨p, d, rfl, _⟩ := h
    rfl
  · obtain ⟨p, d, rfl, pd, k⟩ := h
    obtain ⟨dx, l1, l2, l3, l4, h0, ⟨h1, h2, h3, h4⟩, _⟩ := pd.ex
    refine ⟨_, (pss_one (ps_ret (pe_callTy call_list_of (by rfl) (T.fr 7) (by decide +kernel) (pa_cons (pe_fld (pv 0) rfl) pa_nil)))), ?_⟩
    walk_at "ev0"
    refine r_low T h0 ?_
    walk_at "ev"
    exact k
/-- a new plan made -/
theorem r_plan {H : Hp} {Q : VK} {a1 a2 a3 a4 : Addr} {d : PD} (ok : d.Ok) (h1 : H a1 = some (.lst (d.L.map V.int))) (h2 : H a2 = some (.lst (d.U.map V.int))) (h3 : H a3 = some (.lst (d.A.map V.int))) (h4 : H a4 = some (.lst (d.B.map V.int)))
    (k : ∀ p H', Fr [] H H' → NewP K H H' p d → Q (.ref p) H') : ∀ x dx, H x = none → H dx = none → dx ≠ x →
      sp_Plan___init__ K (.ref x :: ([.ref a1, .ref a2, .ref a3, .ref a4] ++ [])) (upd (upd H dx (.own x)) x (.ins (CP K) dx [])) (fun v H2 => v = .non ∧ Q (.ref x) H2) E0 := by
  intro x dx hx hdx hne
  have f1 : Fr [] H (upd H dx (.own x)) := (Fr.refl H).new hdx
  have hx1 : (upd H dx (.own x)) x = none := by
    rw [upd_ne hne.symm]
    exact hx
  have f2 : Fr [] H (upd (upd H dx (.own x)) x (.ins (CP K) dx [])) := f1.new hx1
  have nil : ∀ {a : Addr}, a ∉ ([] : List Addr) := fun m => nomatch m
  refine ⟨x, dx, a1, a2, a3, a4, d, rfl, upd_same, ⟨f2 _ _ nil h1, f2 _ _ nil h2, f2 _ _ nil h3, f2 _ _ nil h4⟩, ok, fun H' l1 l2 l3 l4 fr hx' hl hn => ⟨rfl, ?_⟩⟩
  have back : ∀ {l : Addr}, (upd (upd H dx (.own x)) x (.ins (CP K) dx [])) l = none → H l = none := fun {l} e => by
    cases e1 : H l with
    | none => rfl
    | some o =>
      rw [f2 l o nil e1] at e
      cases e
  refine k x H' (fun a o _ e => ?_) ⟨hx, fun J hJ => ⟨dx, l1, l2, l3, l4, hx', hl, ?_⟩⟩
  · exact fr a o (fun m => by
      rcases List.mem_cons.mp m with m | m
      · rw [m, hx] at e
        cases e
      · cases m) (f2 a o nil e)
  · have no : ∀ {l : Addr}, H l = none → l ∉ J := fun e m => by
      obtain ⟨o, e2⟩ := hJ _ m
      rw [e] at e2
      cases e2
    exact ⟨no hx, no (back hn.1), no (back hn.2.1), no (back hn.2.2.1), no (back hn.2.2.2)⟩
end
set_option Elab.async false
set_option linter.all false
set_option maxRecDepth 100000
set_option maxHeartbeats 4000000
section
variable {P : Program} {w : World} {K : PySem.W.Frag} {mg : Str → Option Value} {base : Heap}
def sp_Plan___eq__ (K : PySem.W.Frag) : Sp := fun vs H Q _ => ∃ (p q : Addr) (d e : PD), vs = [.ref p, .ref q] ∧ PlanAt K [] H p d ∧ PlanAt K [] H q e ∧ Q (.bl (decide (d = e))) H
theorem pd_eq {d e : PD} : decide (d = e) = (decide (d.L = e.L) && (decide (d.U = e.U) && (decide (d.A = e.A) && decide (d.B = e.B)))) := by
  obtain ⟨a, b, c, f⟩ := d
  obtain ⟨a', b', c', f'⟩ := e
  simp [Bool.decide_and]
theorem k_Plan___eq__ (T : Tx fa fn K mg base) : Mth P w K mg base (He.ga K "Plan") "__eq__" ["self", "other"] 1 (sp_Plan___eq__ K) s_Plan___eq__ "Plan.__eq__" := by
  refine T.mth 6 17 13 (q := "Plan.__eq__") (st := s_Plan___eq__) sc_Plan___eq__ (fun _ _ _ _ _ _ us hl => match us, hl with | [_, _], _ => rfl) (fun vs H Q E h => ?_) (fun cdv A outer s H vs Q E hr h => ?_)
  · obtain ⟨p, q, d, e, rfl, _⟩ := h
    rfl
  · obtain ⟨p, q, d, e, rfl, pd, pe, k⟩ := h
    obtain ⟨dx, l1, l2, l3, l4, h0, ⟨h1, h2, h3, h4⟩, _⟩ := pd.ex
    obtain ⟨dy, m1, m2, m3, m4, g0, ⟨g1, g2, g3, g4⟩, _⟩ := pe.ex
    rw [pd_eq] at k
    refine ⟨_, (pss_one (ps_ret (pe_and (pe_callB call_isi (by rfl) (T.fr 0) (by decide +kernel) (pa_cons (pv 1) (pa_cons (pe_glob (v := .ref (He.ga K "Plan")) rfl (T.glo 16) rfl) pa_nil))) (pe_and (pe_cmpR (op_eqD hr.units) (pe_fld (pv 0) rfl) (pe_fld (pv 1) rfl) (nomark _)) (pe_and (pe_cmpR (op_eqD hr.units) (pe_fld (pv 0) rfl) (pe_fld (pv 1) rfl) (nomark _)) (pe_and (pe_cmpR (op_eqD hr.units) (pe_fld (pv 0) rfl) (pe_fld (pv 1) rfl) (nomark _)) (pe_one (pe_cmpR (op_eqD hr.units) (pe_fld (pv 0) rfl) (pe_fld (pv 1) rfl) (nomark _))))))))), ?_⟩
    walk_at "ev0"
    refine r_isi (.own _) (T.isi 43 13 g0) (T.kit 45) ?_
    walk_at "ev"
    refine r_low T h0 ?_
    walk_at "ev"
    refine r_low T g0 (r_eqI (SqL.of h1) (SqL.of g1) ?_)
    walk_at "ev"
    refine r_ite (fun z1 => ?_) (fun z1 => ?_)
    rotate_left
    · rw [decide_eq_false z1] at k
      exact k
    rw [decide_eq_true z1] at k
    walk_at "ev"
    refine r_high T h0 ?_
    walk_at "ev"
    refine r_high T g0 (r_eqI (SqL.of h2) (SqL.of g2) ?_)
    walk_at "ev"
    refine r_ite (fun z2 => ?_) (fun z2 => ?_)
    rotate_left
    · rw [decide_eq_false z2] at k
      exact k
    rw [decide_eq_true z2] at k
    walk_at "ev"
    refine r_least T h0 ?_
    walk_at "ev"
    refine r_least T g0 (r_eqI (SqL.of h3) (SqL.of g3) ?_)
    walk_at "ev"
    refine r_ite (fun z3 => ?_) (fun z3 => ?_)
    rotate_left
    · rw [decide_eq_false z3] at k
      exact k
    rw [decide_eq_true z3] at k
    walk_at "ev"
    refine r_most T h0 ?_
    walk_at "ev"
    refine r_most T g0 (r_eqI (SqL.of h4) (SqL.of g4) ?_)
    walk_at "ev"
    exact k
theorem r_neP {H : Hp} {Q : VK} {p q : Addr} {d e : PD} (pd : PlanAt K [] H p d) (pe : PlanAt K [] H q e) (k : Q (.bl (!decide (d = e))) H) : rNeP (CP K) (sp_Plan___eq__ K) (.ref p) (.ref q) H Q := by
  obtain ⟨dx, l1, l2, l3, l4, h0, _⟩ := pd.ex
  obtain ⟨dy, m1, m2, m3, m4, g0, _⟩ := pe.ex
  exact ⟨p, dx, _, q, dy, _, rfl, rfl, h0, g0, p, q, d, e, rfl, pd, pe, _, rfl, k⟩
end
set_option Elab.async false
set_option linter.all false
set_option maxRecDepth 100000
set_option maxHeartbeats 4000000
set_option Elab.async false
set_option linter.all false
set_option maxRecDepth 100000
set_option maxHeartbeats 4000000
set_option exponentiation.threshold 2000
section
variable {P : Program} {w : World} {K : PySem.W.Frag} {mg : Str → Option Value} {base : Heap}
def PD.tot (d : PD) : Int := nth d.L (d.L.length - 1)
end
set_option Elab.async false
set_option linter.all false
set_option maxRecDepth 100000
set_option maxHeartbeats 4000000
set_option exponentiation.threshold 2000
set_option Elab.async false
set_option linter.all false
set_option maxRecDepth 100000
set_option maxHeartbeats 4000000
set_option exponentiation.threshold 2000
set_option Elab.async false
set_option linter.all false
set_option maxRecDepth 100000
set_option maxHeartbeats 4000000
set_option Elab.async false
set_option linter.all false
set_option maxRecDepth 100000
set_option maxHeartbeats 4000000
theorem nth_app_lt {ns : List Int} {x : Int} {i : Nat} (h : i < ns.length) : nth (ns ++ [x]) i = nth ns i := by
  unfold nth
  rw [List.getD_eq_getElem?_getD, List.getD_eq_getElem?_getD, List.getElem?_append_left h]
theorem nth_app_at {ns : List Int} {x : Int} {i : Nat} (h : i = ns.length) : nth (ns ++ [x]) i = x := by
  unfold nth
  rw [List.getD_eq_getElem?_getD, h, List.getElem?_concat_length]
  rfl
/-- the sum of the first ones, up to the i-th -/
def psum (ns : List Int) (i : Nat) : Int := (ns.take (i + 1)).sum
theorem take_sum {ns : List Int} {i : Nat} (h : i < ns.length) : (ns.take (i + 1)).sum = (ns.take i).sum + nth ns i := by
  rw [← getElem_nth h]
  exact sum_take (List.getElem?_eq_getElem h)
/-- bounds around the entries ns -/
structure RawOk (ns : List Int) (d : PD) : Prop where
  lL : d.L.length = ns.length
  lU : d.U.length = ns.length
  lA : d.A.length = ns.length
  lB : d.B.length = ns.length
  l : ∀ i, i < ns.length → nth d.L i ≤ psum ns i
  u : ∀ i, i < ns.length → psum ns i ≤ nth d.U i
  a : ∀ i, i < ns.length → nth d.A i ≤ nth ns i
  b : ∀ i, i < ns.length → nth ns i ≤ nth d.B i
  tL : nth d.L (ns.length - 1) = psum ns (ns.length - 1)
  tU : nth d.U (ns.length - 1) = psum ns (ns.length - 1)
  w : ∀ i, i < ns.length → nth d.U i - nth d.L i ≤ 2 ^ 160
  v : ∀ i, i < ns.length → nth d.B i - nth d.A i ≤ 2 ^ 160
  e : ∀ x ∈ ns, -(2 ^ 110) ≤ x ∧ x ≤ 2 ^ 110
theorem RawOk.ok {ns : List Int} {d : PD} (r : RawOk ns d) (h1 : 1 ≤ ns.length) (h2 : ns.length ≤ 200) : d.Ok where
  one := by rw [r.lL]; exact h1
  most := by rw [r.lL]; exact h2
  lU := by rw [r.lL, r.lU]
  lA := by rw [r.lL, r.lA]
  lB := by rw [r.lL, r.lB]
  lu := fun i hi => by
    rw [r.lL] at hi
    exact Int.le_trans (r.l i hi) (r.u i hi)
  ab := fun i hi => by
    rw [r.lL] at hi
    exact Int.le_trans (r.a i hi) (r.b i hi)
  tot := by rw [r.lL, r.tL, r.tU]
section
variable {P : Program} {w : World} {K : PySem.W.Frag} {mg : Str → Option Value} {base : Heap}
/-- one of three written numbers -/
theorem three {a b c : Int} {v : Int} (h0 : 0 ≤ v) (h1 : v < 3) : ∃ x, atI [V.int a, V.int b, V.int c] v = some (.int x) ∧ (x = a ∨ x = b ∨ x = c) := by
  rcases (show v = 0 ∨ v = 1 ∨ v = 2 by omega) with rfl | rfl | rfl
  · exact ⟨a, rfl, .inl rfl⟩
  · exact ⟨b, rfl, .inr (.inl rfl)⟩
  · exact ⟨c, rfl, .inr (.inr rfl)⟩
end
set_option Elab.async false
set_option linter.all false
set_option maxRecDepth 100000
set_option maxHeartbeats 4000000
set_option exponentiation.threshold 2000
theorem atN {ns : List Int} {i : Nat} (h : i < ns.length) : atI (ns.map V.int) (i : Int) = some (.int (nth ns i)) := atI_nat (at_nth h)
/-- what is known, told anew by places -/
theorem four {a b c d : Int} {v : Int} (h0 : 0 ≤ v) (h1 : v < 4) : ∃ x, atI [V.int a, V.int b, V.int c, V.int d] v = some (.int x) ∧ (x = a ∨ x = b ∨ x = c ∨ x = d) := by
  rcases (show v = 0 ∨ v = 1 ∨ v = 2 ∨ v = 3 by omega) with rfl | rfl | rfl | rfl
  · exact ⟨a, rfl, .inl rfl⟩
  · exact ⟨b, rfl, .inr (.inl rfl)⟩
  · exact ⟨c, rfl, .inr (.inr (.inl rfl))⟩
  · exact ⟨d, rfl, .inr (.inr (.inr rfl))⟩
set_option Elab.async false
set_option linter.all false
set_option maxRecDepth 100000
set_option maxHeartbeats 4000000
set_option exponentiation.threshold 2000
/-- bounds lie at r as a tuple (b) or a list of four lists, apart from what J names -/
structure RawAt (J : List Addr) (H : Hp) (b : Bool) (r : Addr) (d : PD) : Prop where
  ex : ∃ l1 l2 l3 l4, (if b = true then H r = some (.tup [.ref l1, .ref l2, .ref l3, .ref l4]) else H r = some (.lst [.ref l1, .ref l2, .ref l3, .ref l4])) ∧
    (H l1 = some (.lst (d.L.map V.int)) ∧ H l2 = some (.lst (d.U.map V.int)) ∧ H l3 = some (.lst (d.A.map V.int)) ∧ H l4 = some (.lst (d.B.map V.int))) ∧ (r ∉ J ∧ l1 ∉ J ∧ l2 ∉ J ∧ l3 ∉ J ∧ l4 ∉ J)
theorem RawAt.mono {J : List Addr} {H H' : Hp} {b : Bool} {r : Addr} {d : PD} (h : RawAt J H b r d) (f : Fr J H H') : RawAt J H' b r d := by
  obtain ⟨l1, l2, l3, l4, h0, ⟨h1, h2, h3, h4⟩, n0, n1, n2, n3, n4⟩ := h.ex
  refine ⟨l1, l2, l3, l4, ?_, ⟨f _ _ n1 h1, f _ _ n2 h2, f _ _ n3 h3, f _ _ n4 h4⟩, n0, n1, n2, n3, n4⟩
  cases b with
  | true => exact f _ _ n0 h0
  | false => exact f _ _ n0 h0
theorem RawAt.nil {J : List Addr} {H : Hp} {b : Bool} {r : Addr} {d : PD} (h : RawAt J H b r d) : RawAt [] H b r d := by
  obtain ⟨l1, l2, l3, l4, h0, h1, _⟩ := h.ex
  exact ⟨l1, l2, l3, l4, h0, h1, (fun z => nomatch z), (fun z => nomatch z), (fun z => nomatch z), (fun z => nomatch z), fun z => nomatch z⟩
set_option Elab.async false
set_option linter.all false
set_option maxRecDepth 100000
set_option maxHeartbeats 4000000
set_option exponentiation.threshold 2000
set_option Elab.async false
set_option linter.all false
set_option maxRecDepth 100000
set_option maxHeartbeats 4000000
set_option exponentiation.threshold 2000
theorem nin {α : Type} {a : α} : a ∉ ([] : List α) := fun m => nomatch m
theorem Fr.drop {H H1 H2 : Hp} {p : Addr} (a : Fr [] H H1) (b : Fr [p] H1 H2) (h : H p = none) : Fr [] H H2 := fun x o hx e => b x o (fun m => by
  rw [List.mem_singleton.mp m, h] at e
  cases e) (a x o hx e)
/-- lists of lists of integers that lie -/
inductive LLAt (H : Hp) : List V → List (List Int) → Prop where
  | nil : LLAt H [] []
  | cons {a : Addr} {ns : List Int} {vs : List V} {r : List (List Int)} (h : H a = some (.lst (ns.map V.int))) (t : LLAt H vs r) : LLAt H (.ref a :: vs) (ns :: r)
abbrev llD (xs : List (List Int)) : PyData := .list (xs.map fun ns => .list (ns.map PyData.int))
theorem LLAt.dp {K : PySem.W.Frag} {H : Hp} {vs : List V} {r : List (List Int)} (h : LLAt H vs r) : DpAll K H vs (r.map fun ns => .list (ns.map PyData.int)) := by
  induction h with
  | nil => exact .nil
  | cons h _ ih => exact .cons (.lst (SqL.of h) (dpAll_ints _)) ih
theorem canLay_ll : ∀ r : List (List Int), PyData.canLayAll0 (r.map fun ns => .list (ns.map PyData.int)) = true
  | [] => rfl
  | n :: r => by
    rw [List.map_cons, PyData.canLayAll0, canLay_ll r, PyData.canLay0, canLay_ints]
    rfl
section
variable {P : Program} {w : World} {K : PySem.W.Frag} {mg : Str → Option Value} {base : Heap}
theorem r_planA {H : Hp} {Q : Addr → Hp → Prop} {a1 a2 a3 a4 : Addr} {d : PD} (ok : d.Ok) (h1 : H a1 = some (.lst (d.L.map V.int))) (h2 : H a2 = some (.lst (d.U.map V.int))) (h3 : H a3 = some (.lst (d.A.map V.int))) (h4 : H a4 = some (.lst (d.B.map V.int)))
    (k : ∀ p H', Fr [] H H' → NewP K H H' p d → Q p H') : ∀ x dx, H x = none → H dx = none → dx ≠ x →
      sp_Plan___init__ K (.ref x :: ([.ref a1, .ref a2, .ref a3, .ref a4] ++ [])) (upd (upd H dx (.own x)) x (.ins (CP K) dx [])) (fun v H2 => v = .non ∧ Q x H2) E0 := by
  intro x dx hx hdx hne
  have h := r_plan (Q := fun v H2 => ∃ y, v = .ref y ∧ Q y H2) ok h1 h2 h3 h4 (fun p H' f n => ⟨p, rfl, k p H' f n⟩) x dx hx hdx hne
  have e : (fun (v : V) (H2 : Hp) => v = .non ∧ ∃ y, V.ref x = .ref y ∧ Q y H2) = fun v H2 => v = .non ∧ Q x H2 := by
    funext v H2
    simp
  exact e ▸ h
end
/-- new lists of integers, listed -/
theorem lc_lists {J : It} {n : Nat} {GG : Hp → Prop} {Y : Nat → Hp → V → Hp → Prop} {g : TG} {te : TE} {vs : List Nat} {σ : L2.St} {H1 : Hp} {Q : VK} (w : Walk J n GG Y) (f : Nat → List Int) (hn : n ≤ 1000) (hG : ∀ H', Fr [] H1 H' → GG H') (hY : ∀ i H' x H'', Y i H' x H'' → H'' = H')
    (he : ∀ i x H' (R : VK), i < n → Fr [] H1 H' → Y i H' x H' → (∀ p H4, Fr [] H' H4 → H' p = none → H4 p = some (.lst ((f i).map V.int)) → R (.ref p) H4) → g x (wipe σ vs) H' fun σ2 H2 => wipe σ2 vs = wipe σ vs ∧ te σ2 H2 R)
    (hd : ∀ (D : Addr) (M : List (Addr × List Int)) H', M.map Prod.snd = ((List.range n).map f).reverse → Z H1 H' ((2, D, .lst (M.reverse.map fun q => .ref q.1)) :: M.map fun q => ((2, q.1, .lst (q.2.map V.int)) : En)) → Q (.ref D) H') : LcJ g tYes te vs σ Q J H1 := by
  intro D hD
  refine lc_it w (fun i H' => i ≤ n ∧ ∃ M : List (Addr × List Int), M.map Prod.snd = ((List.range i).map f).reverse ∧ Z H1 H' ((2, D, .lst (M.reverse.map fun q => .ref q.1)) :: M.map fun q => ((2, q.1, .lst (q.2.map V.int)) : En)))
    ⟨Nat.zero_le _, [], rfl, (Z.start0 H1).alloc _ hD⟩ (fun i H' _ ⟨_, M, _, z⟩ => hG H' (z.fr0 ?_)) (fun i x H' H'' hi ⟨_, M, e, z⟩ y => ?_) (fun H' ⟨_, M, e, z⟩ => hd D M H' e z)
  · intro q hq
    rcases List.mem_cons.mp hq with rfl | hq
    · exact (by decide : (2 : Nat) ≠ 1)
    · obtain ⟨r, _, rfl⟩ := List.mem_map.mp hq
      exact (by decide : (2 : Nat) ≠ 1)
  obtain rfl := hY i H' x H'' y
  refine he i x H'' _ hi (z.fr0 ?_) y fun p H4 f4 hp h4 => ⟨M.reverse.map fun q => .ref q.1, f4 _ _ (fun m => nomatch m) (z.get (.head _)), ?_, hi, (p, f i) :: M, ?_, ?_⟩
  · intro q hq
    rcases List.mem_cons.mp hq with rfl | hq
    · exact (by decide : (2 : Nat) ≠ 1)
    · obtain ⟨r, _, rfl⟩ := List.mem_map.mp hq
      exact (by decide : (2 : Nat) ≠ 1)
  · have l := congrArg List.length e
    simp only [List.length_map, List.length_reverse, List.length_range] at l
    rw [List.length_map, List.length_reverse, l]
    exact Nat.lt_of_lt_of_le (show i < 1001 by omega) (by decide)
  · rw [List.map_cons, e, List.range_succ, List.map_append, List.reverse_append]
    rfl
  · have z2 := (z.comp f4 hp h4).set 1 (.lst ((M.reverse.map fun q => V.ref q.1) ++ [.ref p])) rfl (.inr rfl)
    refine Z.perm (E' := (2, D, .lst (((p, f i) :: M).reverse.map fun q => V.ref q.1)) :: (2, p, .lst ((f i).map V.int)) :: M.map fun q => ((2, q.1, .lst (q.2.map V.int)) : En)) z2 ?_
    rw [List.reverse_cons, List.map_append]
    exact List.Perm.swap ..
set_option Elab.async false
set_option linter.all false
set_option maxRecDepth 100000
set_option maxHeartbeats 4000000
set_option exponentiation.threshold 2000
theorem Fr.none {H H1 : Hp} {p : Addr} (f : Fr [] H H1) (h : H1 p = Option.none) : H p = Option.none := by
  cases e : H p with
  | none => rfl
  | some o =>
    rw [f _ _ (fun z => nomatch z) e] at h
    cases h
theorem zpick_nd {H0 H : Hp} {E : List En} (z : Z H0 H E) : ∀ (is : List Nat) (N : List (Addr × HO)), is.Nodup → is.map (fun i => E[i]?) = N.map (fun q => some ((2, q.1, q.2) : En)) → (N.map (·.1)).Nodup
  | [], [], _, _ => List.nodup_nil
  | [], _ :: _, _, e => by cases e
  | _ :: _, [], _, e => by cases e
  | i :: is, p :: N, nd, e => by
    rw [List.map_cons, List.map_cons, List.cons.injEq] at e
    rw [List.nodup_cons] at nd
    rw [List.map_cons, List.nodup_cons]
    refine ⟨fun m => ?_, zpick_nd z is N nd.2 e.2⟩
    obtain ⟨q, hq, e1⟩ := List.mem_map.mp m
    obtain ⟨k, hk, h⟩ := pick_mem is N e.2 q hq
    exact z.other e.1 h (fun x => nd.1 (x ▸ hk)) e1
/-- of what is known the entries at these places -/
theorem Z.pick {H0 H : Hp} {E : List En} (z : Z H0 H E) {N : List (Addr × HO)} (is : List Nat) (e : is.map (fun i => E[i]?) = N.map (fun q => some ((2, q.1, q.2) : En))) (nd : is.Nodup := by decide) : New H0 H N :=
  ⟨⟨zpick_nd z is N nd e, fun q hq => by
    obtain ⟨i, _, h⟩ := pick_mem is N e q hq
    exact z.at_ _ (List.mem_of_getElem? h)⟩, fun q hq => by
    obtain ⟨i, _, h⟩ := pick_mem is N e q hq
    exact z.fresh _ (List.mem_of_getElem? h) rfl⟩
def revA {α : Type} (us ws : List α) : List α := us ++ ws.reverse
theorem kr_rev0 {n : Nat} {vs : List V} {us : List Value} {zs : List V} {ws : List Value} (h1 : Vals vs us) (h2 : Vals zs ws) (_ : zs.length = n) (_ : vs.length = 0) : Vals (revA vs zs) (revA us ws) := h1.append h2.reverse
/-- [f(i) for .. if p(i)], nothing that stood changed -/
theorem lc_filt {J : It} {n : Nat} {GG : Hp → Prop} {Y : Nat → Hp → V → Hp → Prop} {g : TG} {tt : TT} {te : TE} {vs : List Nat} {σ : L2.St} {H1 : Hp} {Q : VK} (w : Walk J n GG Y) (f : Nat → V) (p : Nat → Bool) (hn : n ≤ 100000) (hG : ∀ H', Fr [] H1 H' → GG H') (hY : ∀ i H' x H'', Y i H' x H'' → Fr [] H' H'')
    (he : ∀ i x H' H'' (R : VK) (N : Hp → Prop), i < n → Fr [] H1 H' → Y i H' x H'' → (p i = true → ∀ H4, Fr [] H'' H4 → R (f i) H4) → (p i = false → ∀ H4, Fr [] H'' H4 → N H4) → g x (wipe σ vs) H'' fun σ2 H2 => wipe σ2 vs = wipe σ vs ∧ tt σ2 H2 fun b H3 => if b = true then te σ2 H3 R else N H3)
    (hd : ∀ D H', H1 D = none → Fr [] H1 H' → H' D = some (.lst (((List.range n).filter p).map f)) → Q (.ref D) H') : LcJ g tt te vs σ Q J H1 := by
  intro D hD
  refine lc_it w (fun i H' => i ≤ n ∧ Fr [] H1 H' ∧ H' D = some (.lst (((List.range i).filter p).map f))) ⟨Nat.zero_le _, (Fr.refl H1).mut hD, upd_same⟩ (fun i H' _ p => hG H' p.2.1) (fun i x H' H'' hi p y => ?_) (fun H' p => hd D H' hD p.2.1 p.2.2)
  obtain ⟨p1, p2, p3⟩ := p
  have hf := hY i H' x H'' y
  refine he i x H' H'' _ _ hi p2 y (fun pi H4 e4 => ?_) (fun pi H4 e4 => ?_)
  · have e5 : Fr [] H' H4 := hf.trans e4
    refine ⟨_, e5 _ _ (fun z => nomatch z) p3, ?_, hi, (p2.trans e5).mut hD, ?_⟩
    · rw [List.length_map]
      have := List.length_filter_le p (List.range i)
      rw [List.length_range] at this
      exact Nat.lt_of_le_of_lt this (Nat.lt_of_lt_of_le (show i < 100001 by omega) (by decide))
    · rw [upd_same, List.range_succ, List.filter_append, List.map_append, List.filter_cons_of_pos (by exact pi)]
      rfl
  · have e5 : Fr [] H' H4 := hf.trans e4
    refine ⟨hi, p2.trans e5, ?_⟩
    rw [List.range_succ, List.filter_append, List.filter_cons_of_neg (by simp [pi]), List.filter_nil, List.append_nil]
    exact e5 _ _ (fun z => nomatch z) p3
/-- X_0 .. X_i -/
def sumsTo (ns : List Int) (i : Nat) : List Int := (List.range (i + 1)).map fun k => (ns.take k).sum
abbrev sums0 (ns : List Int) : List Int := sumsTo ns ns.length
/-- X_1 .. X_i -/
def hsTo (ns : List Int) (i : Nat) : List Int := (List.range i).map fun k => (ns.take (k + 1)).sum
abbrev heights (ns : List Int) : List Int := hsTo ns ns.length
theorem sumsTo_len {ns : List Int} {i : Nat} : (sumsTo ns i).length = i + 1 := by simp [sumsTo]
theorem hsTo_len {ns : List Int} {i : Nat} : (hsTo ns i).length = i := by simp [hsTo]
theorem sumsTo_succ (ns : List Int) (i : Nat) : sumsTo ns (i + 1) = sumsTo ns i ++ [(ns.take (i + 1)).sum] := by
  unfold sumsTo
  rw [List.range_succ, List.map_append]
  rfl
theorem hsTo_succ (ns : List Int) (i : Nat) : hsTo ns (i + 1) = hsTo ns i ++ [(ns.take (i + 1)).sum] := by
  unfold hsTo
  rw [List.range_succ, List.map_append]
  rfl
theorem nth_range {f : Nat → Int} {n i : Nat} (h : i < n) : nth ((List.range n).map f) i = f i := by
  unfold nth
  rw [List.getD_eq_getElem?_getD, List.getElem?_map, List.getElem?_range h]
  rfl
theorem nth_sumsTo {ns : List Int} {i k : Nat} (h : k ≤ i) : nth (sumsTo ns i) k = (ns.take k).sum := nth_range (by omega)
theorem nth_hsTo {ns : List Int} {i k : Nat} (h : k < i) : nth (hsTo ns i) k = (ns.take (k + 1)).sum := nth_range h
theorem leAll_iff {ns ms : List Int} : leAll ns ms = true ↔ ∀ i, i < ns.length → i < ms.length → nth ns i ≤ nth ms i := by
  unfold leAll
  rw [List.all_eq_true]
  constructor
  · intro h i h1 h2
    exact of_decide_eq_true (h i (List.mem_range.mpr (by omega)))
  · intro h i hi
    have := List.mem_range.mp hi
    exact decide_eq_true (h i (by omega) (by omega))
theorem nth_ext {ns ms : List Int} (l : ns.length = ms.length) (h : ∀ i, i < ns.length → nth ns i = nth ms i) : ns = ms := by
  refine List.ext_getElem l fun i h1 h2 => ?_
  rw [getElem_nth h1, getElem_nth h2]
  exact h i h1
set_option Elab.async false
set_option linter.all false
set_option maxRecDepth 100000
set_option maxHeartbeats 4000000
set_option exponentiation.threshold 2000
/-- the inner sums from the end -/
def turn (t : Int) (ns : List Int) : List Int := (ns.dropLast.reverse.map fun x => t - x) ++ [t]
set_option Elab.async false
set_option linter.all false
set_option maxRecDepth 100000
set_option maxHeartbeats 4000000
section
variable {P : Program} {w : World} {K : PySem.W.Frag} {mg : Str → Option Value} {base : Heap}
def sp_sums_from_zero (K : PySem.W.Frag) : Sp := fun vs H Q _ => ∃ (a : Addr) (ns : List Int), vs = [.ref a] ∧ H a = some (.lst (ns.map V.int)) ∧ ns.length ≤ 10000 ∧ ∀ p H', H p = none → Fr [] H H' → H' p = some (.lst ((sums0 ns).map V.int)) → Q (.ref p) H'
theorem k_sums_from_zero (T : Tx fa fn K mg base) : Fk P w K mg base "sums_from_zero" ["row"] 1 (sp_sums_from_zero K) s_sums_from_zero "sums_from_zero" := by
  refine T.fk 3 11 (q := "sums_from_zero") (st := s_sums_from_zero) sc_sums_from_zero (fun _ _ _ _ _ _ us hl => match us, hl with | [_], _ => rfl) (fun vs H Q E h => ?_) (fun cdv A outer s H vs Q E hr h => ?_)
  · obtain ⟨a, ns, rfl, _⟩ := h
    rfl
  · obtain ⟨a, ns, rfl, ha, hn, k⟩ := h
    have hl : (ns.map V.int).length = ns.length := List.length_map _
    refine ⟨_, (pss_cons (ps_set (i := 1) sc_sums_from_zero.nd rfl (by first | exact Or.inl rfl | exact Or.inr rfl) (pe_lst (pa_cons pe_int pa_nil)))
      (pss_cons (ps_for PassesOwn.never rfl (pi_list (pv 0)) (pg_name (i := 2) sc_sums_from_zero.nd rfl (by first | exact Or.inl rfl | exact Or.inr rfl)) (pss_one (ps_expr (pe_bm PySem.F.plainAttrs_list PySem.F.slot_list_append PySem.F.type_list_append mt_append (pv 1) (pa_cons (pe_op op_add (pe_ix ix_list (pv 1) (pe_un un_neg pe_int) (fun _ _ => rfl)) (pv 2)) pa_nil)))))
      (pss_one (ps_ret (pv 1))))), ?_⟩
    walk_at "ev0"
    intro p k1
    have z1 := (Z.start0 H).alloc (.lst [.int 0]) k1
    walk_at "ev"
    refine for_it (walk_list (xs := ns.map V.int)) (fun i σ H' => ∃ u : Option V, σ = [some (.ref a), some (.ref p), u] ∧ Z H H' [(2, p, .lst ((sumsTo ns i).map V.int))]) ⟨none, rfl, z1⟩ (fun i σ H' _ p => ?_) (fun i x σ H' H'' hi p y => ?_) (fun σ H' p => ?_)
    · obtain ⟨u, _, z⟩ := p
      exact SqL.of (z.keep ha (by simp))
    · obtain ⟨u, rfl, z⟩ := p
      obtain ⟨rfl, hx⟩ := y
      obtain rfl := nth_at hx
      have hi' : i < ns.length := by omega
      walk_at "ev"
      refine r_at (atI_end (by rw [sumsTo_len]; omega)) ?_
      rw [sumsTo_len, Nat.add_sub_cancel, nth_sumsTo (Nat.le_refl _)]
      walk_at "ev"
      refine r_app (z.get (.head _)) (smalllt' (by rw [List.length_map, sumsTo_len]; omega)) ?_
      walk_at "ev"
      refine ⟨_, rfl, ?_⟩
      rw [← take_sum hi', show [V.int (ns.take (i + 1)).sum] = [(ns.take (i + 1)).sum].map V.int from rfl, ← List.map_append, ← sumsTo_succ]
      exact z.set 0 _ rfl (.inr rfl)
    · obtain ⟨u, rfl, z⟩ := p
      rw [hl] at z
      walk_at "ev"
      exact k p H' k1 (z.fr0 (by simp)) (z.get (.head _))
end
set_option Elab.async false
set_option linter.all false
set_option maxRecDepth 100000
set_option maxHeartbeats 4000000
set_option exponentiation.threshold 2000
def PD.a (d : PD) (t : Nat) : Int := nth d.A t
def PD.b (d : PD) (t : Nat) : Int := nth d.B t
theorem ifmin (i j : Int) : (if j < i then j else i) = min i j := by split <;> omega
section
variable {P : Program} {w : World} {K : PySem.W.Frag} {mg : Str → Option Value} {base : Heap}
/-- a list of a plan told -/
theorem r_pl {f : PD → List Int} {H : Hp} {Q : VK} {p : Addr} {d : PD} (pd : PlanAt K [] H p d) (q : ∀ l, H l = none → Q (.ref l) (upd H l (.lst ((f d).map V.int)))) :
    ∃ b dx fs, V.ref p = .ref b ∧ H b = some (.ins (CP K) dx fs) ∧ sp_list K f (.ref b :: []) H Q E0 := by
  obtain ⟨dx, l1, l2, l3, l4, h0, _⟩ := pd.ex
  exact ⟨p, dx, _, rfl, h0, p, d, rfl, pd, q⟩
end
set_option Elab.async false
set_option linter.all false
set_option maxRecDepth 100000
set_option maxHeartbeats 4000000
set_option exponentiation.threshold 2000
/-- the differences of neighbours -/
def diffs (ns : List Int) : List Int := (List.range (ns.length - 1)).map fun i => nth ns (i + 1) - nth ns i
theorem diffs_len {ns : List Int} : (diffs ns).length = ns.length - 1 := by simp [diffs]
theorem cut_from1 (xs : List V) : cutV xs (some 1) none = xs.drop 1 := by
  unfold cutV
  rw [HT.sIx_none]
  cases xs with
  | nil => rfl
  | cons x r =>
    rw [show HT.sIx (x :: r).length 0 (some 1) = min 1 (x :: r).length from by
      unfold HT.sIx
      simp]
    rw [show min 1 (x :: r).length = 1 by simp]
    rw [List.take_of_length_le (by simp)]
theorem drop_sums (ns : List Int) : (sums0 ns).drop 1 = heights ns := by
  refine nth_ext (by rw [List.length_drop, sumsTo_len, hsTo_len]; omega) fun i hi => ?_
  rw [List.length_drop, sumsTo_len] at hi
  have e : nth ((sums0 ns).drop 1) i = nth (sums0 ns) (i + 1) := by
    unfold nth
    rw [List.getD_eq_getElem?_getD, List.getD_eq_getElem?_getD, List.getElem?_drop, Nat.add_comm]
  rw [e, nth_sumsTo (by omega), nth_hsTo (by omega)]
section
variable {P : Program} {w : World} {K : PySem.W.Frag} {mg : Str → Option Value} {base : Heap}
def sp_entries_of (K : PySem.W.Frag) : Sp := fun vs H Q _ => ∃ (a : Addr) (ns : List Int), vs = [.ref a] ∧ H a = some (.lst (ns.map V.int)) ∧ (1 ≤ ns.length ∧ ns.length ≤ 10000) ∧ ∀ p H', H p = none → Fr [] H H' → H' p = some (.lst ((diffs ns).map V.int)) → Q (.ref p) H'
theorem k_entries_of (T : Tx fa fn K mg base) : Fk P w K mg base "entries_of" ["sums"] 1 (sp_entries_of K) s_entries_of "entries_of" := by
  refine T.fk 8 19 (q := "entries_of") (st := s_entries_of) sc_entries_of (fun _ _ _ _ _ _ us hl => match us, hl with | [_], _ => rfl) (fun vs H Q E h => ?_) (fun cdv A outer s H vs Q E hr h => ?_)
  · obtain ⟨a, ns, rfl, _⟩ := h
    rfl
  · obtain ⟨a, ns, rfl, ha, hn, k⟩ := h
    refine ⟨_, (pss_one (ps_ret (pe_lc (own := [("before", 1), ("after", 2)]) (tt := tYes) (g := (gTup K 2 (gCons (gName 1) (gCons (gName 2) gNil)))) (te := (tOp (rI0 fun i j => .int (i - j)) (tVar 2) (tVar 1))) rfl sc_entries_of.nd (pi_zip (by rfl) (T.fr 9) (pa_cons (pv 0) (pa_cons (pe_slice sl_list (pv 0) (po_some pe_int) po_none) pa_nil))) (blkOk_by (N := ["sums", "before", "after"]) (sc := defScope s_entries_of) (by decide +kernel)) (fun _ _ _ _ _ => (pg_tup rfl (pgs_cons (pg_name (i := 1) sc_entries_of.nd rfl (by first | exact Or.inl rfl | exact Or.inr rfl)) (pgs_cons (pg_name (i := 2) sc_entries_of.nd rfl (by first | exact Or.inl rfl | exact Or.inr rfl)) pgs_nil)))) (fun _ _ _ _ _ => pts_nil) (fun _ _ _ _ _ => (pe_op op_sub (pv 2) (pv 1)))))), ?_⟩
    walk_at "ev0"
    rw [cut_from1, ← List.map_drop]
    intro s1 k1
    have z1 := (Z.start0 H).alloc (.lst ((ns.drop 1).map V.int)) k1
    have ha1 := z1.keep ha (by simp)
    have hs1 := z1.get (.head _)
    have dl : (ns.drop 1).length = ns.length - 1 := by rw [List.length_drop]
    have dn : ∀ i, nth (ns.drop 1) i = nth ns (i + 1) := fun i => by
      unfold nth
      rw [List.getD_eq_getElem?_getD, List.getD_eq_getElem?_getD, List.getElem?_drop, Nat.add_comm]
    walk_at "ev"
    refine lc_pure (walk_zip (xs := ns.map V.int) (ys := (ns.drop 1).map V.int) (n := ns.length - 1) (by simp)) (fun i => .int (nth ns (i + 1) - nth ns i)) (by omega) (fun H' e => ⟨e.sql (SqL.of ha1) nin, e.sql (SqL.of hs1) nin⟩)
      (fun i H' x H'' y => by obtain ⟨T, x1, x2, _, h0, rfl, _⟩ := y; exact (Fr.refl _).new h0) (fun i x H' H'' R hi e y kR => ?_) (fun D H' hD e hD' => ?_)
    · obtain ⟨T, x1, x2, rfl, h0, rfl, g1, g2⟩ := y
      obtain rfl := nth_at g1
      obtain rfl := nth_at g2
      rw [← dn i] at kR
      walk_at "ev"
      refine ⟨rfl, ?_⟩
      walk_at "ev"
      exact kR _ (Fr.refl _)
    · have f1 := z1.fr0 (by simp)
      exact k D H' (f1.none hD) (f1.trans e) (by unfold diffs; rw [List.map_map]; exact hD')
def sp_sums_of (K : PySem.W.Frag) : Sp := fun vs H Q _ => ∃ (a : Addr) (ns : List Int), vs = [.ref a] ∧ H a = some (.lst (ns.map V.int)) ∧ (1 ≤ ns.length ∧ ns.length ≤ 200) ∧ ∀ p H', H p = none → Fr [] H H' → H' p = some (.lst ((heights ns).map V.int)) → Q (.ref p) H'
theorem k_sums_of (T : Tx fa fn K mg base) : Fk P w K mg base "sums_of" ["row"] 3 (sp_sums_of K) s_sums_of "sums_of" := by
  refine T.fk 7 18 (q := "sums_of") (st := s_sums_of) sc_sums_of (fun _ _ _ _ _ _ us hl => match us, hl with | [_], _ => rfl) (fun vs H Q E h => ?_) (fun cdv A outer s H vs Q E hr h => ?_)
  · obtain ⟨a, ns, rfl, _⟩ := h
    rfl
  · obtain ⟨a, ns, rfl, ha, hn, k⟩ := h
    refine ⟨_, (pss_cons (ps_if (pt_not (pt_val (pe_f (k_is_whole_list T) hr (pa_cons (pv 0) pa_nil)))) (pss_one ps_never) pss_nil)
      (pss_one (ps_ret (pe_slice sl_list (pe_f (k_sums_from_zero T) hr (pa_cons (pv 0) pa_nil)) (po_some pe_int) po_none)))), ?_⟩
    walk_at "ev0"
    refine ⟨a, ns, rfl, ha, hn, fun H1 f1 => ?_⟩
    walk_at "ev"
    refine ⟨a, ns, rfl, f1 _ _ nin ha, by omega, fun p H2 h2 f2 g2 => ?_⟩
    walk_at "ev"
    rw [cut_from1, ← List.map_drop, drop_sums]
    intro r k3
    have z3 := (Z.start0 H2).alloc (.lst ((heights ns).map V.int)) k3
    have f12 := f1.trans f2
    exact k r _ (f12.none k3) (f12.trans (z3.fr0 (by simp))) (z3.get (.head _))
end
set_option Elab.async false
set_option linter.all false
set_option maxRecDepth 100000
set_option maxHeartbeats 4000000
set_option exponentiation.threshold 2000
set_option Elab.async false
set_option linter.all false
set_option maxRecDepth 100000
set_option maxHeartbeats 4000000
set_option exponentiation.threshold 2000
section
variable {P : Program} {w : World} {K : PySem.W.Frag} {mg : Str → Option Value} {base : Heap}
def sp__law_sums (K : PySem.W.Frag) : Sp := fun vs H Q _ => ∃ (a : Addr) (ns : List Int), vs = [.ref a] ∧ H a = some (.lst (ns.map V.int)) ∧ ns.length ≤ 10000 ∧ ∀ p H', H p = none → Fr [] H H' → H' p = some (.lst ((heights ns).map V.int)) → Q (.ref p) H'
theorem k__law_sums (T : Tx fa fn K mg base) : Fk P w K mg base "_law_sums" ["item"] 1 (sp__law_sums K) s__law_sums "_law_sums" := by
  refine T.fk 19 37 (q := "_law_sums") (st := s__law_sums) sc__law_sums (fun _ _ _ _ _ _ us hl => match us, hl with | [_], _ => rfl) (fun vs H Q E h => ?_) (fun cdv A outer s H vs Q E hr h => ?_)
  · obtain ⟨a, ns, rfl, _⟩ := h
    rfl
  · obtain ⟨a, ns, rfl, ha, hn, k⟩ := h
    have hl : (ns.map V.int).length = ns.length := List.length_map _
    refine ⟨_, (pss_cons (ps_par (i := 1) (j := 2) (by rfl) sc__law_sums.nd rfl rfl (by decide) rfl rfl (pa_cons (pe_lst pa_nil) (pa_cons pe_int pa_nil)) (by rfl))
      (pss_cons (ps_for PassesOwn.never rfl (pi_list (pv 0)) (pg_name (i := 3) sc__law_sums.nd rfl (by first | exact Or.inl rfl | exact Or.inr rfl)) (pss_cons (ps_set (i := 2) sc__law_sums.nd rfl (by first | exact Or.inl rfl | exact Or.inr rfl) (pe_op op_add (pv 2) (pv 3)))
      (pss_one (ps_expr (pe_bm PySem.F.plainAttrs_list PySem.F.slot_list_append PySem.F.type_list_append mt_append (pv 1) (pa_cons (pv 2) pa_nil))))))
      (pss_one (ps_ret (pv 1))))), ?_⟩
    walk_at "ev0"
    intro p k1
    have z1 := (Z.start0 H).alloc (.lst []) k1
    walk_at "ev"
    refine for_it (walk_list (xs := ns.map V.int)) (fun i σ H' => ∃ u : Option V, σ = [some (.ref a), some (.ref p), some (.int (ns.take i).sum), u] ∧ Z H H' [(2, p, .lst ((hsTo ns i).map V.int))]) ⟨none, rfl, z1⟩ (fun i σ H' _ p => ?_) (fun i x σ H' H'' hi p y => ?_) (fun σ H' p => ?_)
    · obtain ⟨u, _, z⟩ := p
      exact SqL.of (z.keep ha (by simp))
    · obtain ⟨u, rfl, z⟩ := p
      obtain ⟨rfl, hx⟩ := y
      obtain rfl := nth_at hx
      have hi' : i < ns.length := by omega
      walk_at "ev"
      refine r_app (z.get (.head _)) (smalllt' (by rw [List.length_map, hsTo_len]; omega)) ?_
      walk_at "ev"
      rw [← take_sum (by omega)]
      refine ⟨_, rfl, ?_⟩
      rw [show [V.int (ns.take (i + 1)).sum] = [(ns.take (i + 1)).sum].map V.int from rfl, ← List.map_append, ← hsTo_succ]
      exact z.set 0 _ rfl (.inr rfl)
    · obtain ⟨u, rfl, z⟩ := p
      rw [hl] at z
      walk_at "ev"
      exact k p H' k1 (z.fr0 (by simp)) (z.get (.head _))
theorem walk_zip3I {xs ys zs : List Int} {n : Nat} (h1 : xs.length = n) (h2 : ys.length = n) (h3 : zs.length = n) {l1 l2 l3 : Addr} : Walk (ItzN K [l1, l2, l3]) n (fun H => SqL K H l1 (xs.map V.int) ∧ SqL K H l2 (ys.map V.int) ∧ SqL K H l3 (zs.map V.int))
    (fun i H v H' => ∃ T : Addr, v = .ref T ∧ H T = none ∧ H' = upd H T (.tup [.int (nth xs i), .int (nth ys i), .int (nth zs i)])) := by
  refine (walk_zipN (K := K) (as := [l1, l2, l3]) (L := [xs.map V.int, ys.map V.int, zs.map V.int]) (n := n) rfl (by simp) (fun us hx => ?_) ⟨xs.map V.int, by simp, by rw [List.length_map, h1]⟩).mono (fun H ⟨g1, g2, g3⟩ m a us em ex => ?_) (fun i H v H' hi _ ⟨T, e1, e2, e3⟩ => ⟨T, e1, e2, ?_⟩)
  · simp only [List.mem_cons, List.not_mem_nil, or_false] at hx
    rcases hx with rfl | rfl | rfl <;> rw [List.length_map] <;> omega
  · match m, em, ex with
    | 0, em, ex => cases em; cases ex; exact g1
    | 1, em, ex => cases em; cases ex; exact g2
    | 2, em, ex => cases em; cases ex; exact g3
  · have g : ∀ {ns : List Int}, i < ns.length → (ns.map V.int).getD i V.non = .int (nth ns i) := fun h => by
      rw [List.getD_eq_getElem?_getD, at_nth h]
      rfl
    rw [e3]
    simp only [List.map_cons, List.map_nil]
    rw [g (by omega), g (by omega), g (by omega)]
end
set_option Elab.async false
set_option linter.all false
set_option maxRecDepth 100000
set_option maxHeartbeats 4000000
set_option exponentiation.threshold 2000
theorem r_neI {K : PySem.W.Frag} {H : Hp} {Q : VK} {a b : Addr} {ns ms : List Int} (ha : SqL K H a (ns.map V.int)) (hb : SqL K H b (ms.map V.int)) (q : Q (.bl (!decide (ns = ms))) H) : rNeD K (.ref a) (.ref b) H Q := by
  refine ⟨.list (ns.map PyData.int), .list (ms.map PyData.int), .lst ha (dpAll_ints ns), .lst hb (dpAll_ints ms), shaped_ints ns, shaped_ints ms, ?_⟩
  rw [PyData.eqv, PySem.W.ked_eqvAll]
  exact q
theorem nj {a j : Addr} (h : a ≠ j) : a ∉ [j] := fun m => h (List.mem_singleton.mp m)
set_option Elab.async false
set_option linter.all false
set_option maxRecDepth 100000
set_option maxHeartbeats 4000000
inductive Od where
  | non
  | bl (b : Bool)
  | int (i : Int)
  | str (s : Str)
  | lst (l : List Od)
  | tup (l : List Od)
  | dic
mutual
/-- an object lies as d says -/
inductive OAt (H : Hp) : V → Od → Prop where
  | non : OAt H .non .non
  | bl (b : Bool) : OAt H (.bl b) (.bl b)
  | int (i : Int) : OAt H (.int i) (.int i)
  | str (s : Str) : OAt H (.str s) (.str s)
  | lst {a : Addr} {xs : List V} {ds : List Od} (h : H a = some (.lst xs)) (t : OAll H xs ds) : OAt H (.ref a) (.lst ds)
  | tup {a : Addr} {xs : List V} {ds : List Od} (h : H a = some (.tup xs)) (t : OAll H xs ds) : OAt H (.ref a) (.tup ds)
  | dic {a : Addr} (h : H a = some (.dK [])) : OAt H (.ref a) .dic
inductive OAll (H : Hp) : List V → List Od → Prop where
  | nil : OAll H [] []
  | cons {v : V} {vs : List V} {d : Od} {ds : List Od} (h : OAt H v d) (t : OAll H vs ds) : OAll H (v :: vs) (d :: ds)
end
mutual
theorem OAt.mono {H H' : Hp} (f : Fr [] H H') : ∀ {v : V} {d : Od}, OAt H v d → OAt H' v d
  | _, _, .non => .non
  | _, _, .bl b => .bl b
  | _, _, .int i => .int i
  | _, _, .str s => .str s
  | _, _, .lst h t => .lst (f _ _ (fun m => nomatch m) h) (OAll.mono f t)
  | _, _, .tup h t => .tup (f _ _ (fun m => nomatch m) h) (OAll.mono f t)
  | _, _, .dic h => .dic (f _ _ (fun m => nomatch m) h)
theorem OAll.mono {H H' : Hp} (f : Fr [] H H') : ∀ {vs : List V} {ds : List Od}, OAll H vs ds → OAll H' vs ds
  | _, _, .nil => .nil
  | _, _, .cons h t => .cons (OAt.mono f h) (OAll.mono f t)
end
theorem OAll.length {H : Hp} : ∀ {vs : List V} {ds : List Od}, OAll H vs ds → vs.length = ds.length
  | _, _, .nil => rfl
  | _, _, .cons _ t => by rw [List.length_cons, List.length_cons, OAll.length t]
theorem OAll.get {H : Hp} : ∀ {vs : List V} {ds : List Od} {i : Nat} {v : V}, OAll H vs ds → vs[i]? = some v → ∃ d, ds[i]? = some d ∧ OAt H v d
  | _, _, 0, _, .cons h _, e => by cases e; exact ⟨_, rfl, h⟩
  | _, _, i + 1, _, .cons (vs := vs) (ds := ds) _ t, e => by
    rw [List.getElem?_cons_succ] at e
    obtain ⟨d, h1, h2⟩ := OAll.get t e
    exact ⟨d, by rw [List.getElem?_cons_succ]; exact h1, h2⟩
theorem OAll.append {H : Hp} : ∀ {vs us : List V} {ds es : List Od}, OAll H vs ds → OAll H us es → OAll H (vs ++ us) (ds ++ es)
  | _, _, _, _, .nil, u => u
  | _, _, _, _, .cons h t, u => .cons h (t.append u)
theorem OAll.take {H : Hp} : ∀ {vs : List V} {ds : List Od} (n : Nat), OAll H vs ds → OAll H (vs.take n) (ds.take n)
  | _, _, 0, _ => .nil
  | _, _, _ + 1, .nil => .nil
  | _, _, n + 1, .cons h t => .cons h (t.take n)
theorem OAll.drop {H : Hp} : ∀ {vs : List V} {ds : List Od} (n : Nat), OAll H vs ds → OAll H (vs.drop n) (ds.drop n)
  | _, _, 0, h => h
  | _, _, _ + 1, .nil => .nil
  | _, _, n + 1, .cons _ t => t.drop n
theorem OAll.reverse {H : Hp} : ∀ {vs : List V} {ds : List Od}, OAll H vs ds → OAll H vs.reverse ds.reverse
  | _, _, .nil => .nil
  | _, _, .cons h t => by
    rw [List.reverse_cons, List.reverse_cons]
    exact t.reverse.append (.cons h .nil)
/-- its type -/
def Od.ty : Od → String
  | .non => "NoneType"
  | .bl _ => "bool"
  | .int _ => "int"
  | .str _ => "str"
  | .lst _ => "list"
  | .tup _ => "tuple"
  | .dic => "dict"
theorem OAt.tyX {K : PySem.W.Frag} {H : Hp} {v : V} {d : Od} (h : OAt H v d) : TyX K H v (.type d.ty) := by
  cases h with
  | non => exact .base .non
  | bl b => exact .base (.bl b)
  | int i => exact .base (.int i)
  | str s => exact .base (.str s)
  | lst h _ => exact .base (.lst h)
  | tup h _ => exact .base (.tup h)
  | dic h => exact .base (.dK h)
def Od.isT : Od → Bool
  | .tup _ => true
  | _ => false
def Od.isL : Od → Bool
  | .lst _ => true
  | _ => false
theorem Od.kitT {K : PySem.W.Frag} (d : Od) : PySem.W.kitOne K (.type d.ty) (.type "tuple") = some d.isT := by
  cases d with
  | non => exact kit_ty (a := "NoneType") (b := "tuple") (r := false) (by decide +kernel)
  | bl _ => exact kit_ty (a := "bool") (b := "tuple") (r := false) (by decide +kernel)
  | int _ => exact kit_ty (a := "int") (b := "tuple") (r := false) (by decide +kernel)
  | str _ => exact kit_ty (a := "str") (b := "tuple") (r := false) (by decide +kernel)
  | lst _ => exact kit_ty (a := "list") (b := "tuple") (r := false) (by decide +kernel)
  | tup _ => exact kit_ty (a := "tuple") (b := "tuple") (r := true) (by decide +kernel)
  | dic => exact kit_ty (a := "dict") (b := "tuple") (r := false) (by decide +kernel)
theorem Od.kitL {K : PySem.W.Frag} (d : Od) : PySem.W.kitOne K (.type d.ty) (.type "list") = some d.isL := by
  cases d with
  | non => exact kit_ty (a := "NoneType") (b := "list") (r := false) (by decide +kernel)
  | bl _ => exact kit_ty (a := "bool") (b := "list") (r := false) (by decide +kernel)
  | int _ => exact kit_ty (a := "int") (b := "list") (r := false) (by decide +kernel)
  | str _ => exact kit_ty (a := "str") (b := "list") (r := false) (by decide +kernel)
  | lst _ => exact kit_ty (a := "list") (b := "list") (r := true) (by decide +kernel)
  | tup _ => exact kit_ty (a := "tuple") (b := "list") (r := false) (by decide +kernel)
  | dic => exact kit_ty (a := "dict") (b := "list") (r := false) (by decide +kernel)
theorem r_isLo {K : PySem.W.Frag} {H : Hp} {Q : VK} {v : V} {d : Od} (h : OAt H v d) (q : Q (.bl d.isL) H) : rIsi K [v, .ty "list"] H Q := r_isi (.ty _) h.tyX d.kitL q
def Od.snd : Od → Int
  | .tup (_ :: .int v :: _) => v
  | _ => 0
set_option Elab.async false
set_option linter.all false
set_option maxRecDepth 100000
set_option maxHeartbeats 4000000
set_option exponentiation.threshold 3000
local macro_rules | `(tactic| walk_at "ev.1") => `(tactic| with_reducible first
  | refine' r_seq ?_ | refine' r_asg ?_ | refine' r_op ?_ | (refine' r_var ?v ?_; (case v => k_dflt exact rfl)) | refine' r_c ?_ | refine' r_name ?_ | refine' r_I0 ?_
  | (refine' r_I ?c ?_; (case c => k_dflt exact pow10 (by decide)))
  | refine' r_cons ?_ | refine' r_nil ?_ | refine' r_call ?_ | refine' r_drop ?_ | refine' r_ret ?_ | refine' r_ifs ?_ | refine' r_test ?_ | refine' r_exif ?_ | refine' r_un ?_ | refine' r_U ?_
  | (refine' r_ixL ?s ?_; (case s => k_dflt walk_at "ev.sq")) | (refine' r_ixT ?s ?_; (case s => k_dflt walk_at "ev.st")) | (refine' r_at ?e ?_; (case e => k_dflt exact rfl)) | (refine' r_ixn ?e ?_; (case e => k_dflt exact rfl)) | (refine' r_ixST (r_ixT ?s ?_); (case s => k_dflt walk_at "ev.st")) | (refine' r_ixSL (r_ixL ?s ?_); (case s => k_dflt walk_at "ev.sq"))
  | refine' r_cb ?_ | refine' r_B ?_ | refine' r_and ?_ | refine' r_or ?_ | refine' r_not ?_ | refine' r_andV ?_ | refine' r_orV ?_ | refine' r_notV ?_ | refine' r_if ?_
  | refine' iteT ?_ | refine' iteF ?_ | refine' iteNT ?_ | refine' iteNF ?_ | refine' r_chain ?_
  | (refine' r_gtup ?s ?e ?_; (case s => k_dflt walk_at "ev.st"); (case e => k_dflt exact rfl)) | refine' r_gcons ?_ | refine' r_gnil ?_ | refine' r_gsub ?_
  | (refine' r_setL ?s ?_; (case s => k_dflt walk_at "ev.hg")) | refine' r_tup ?_ | refine' r_lst ?_
  | refine' r_bm ?_ | (refine' r_tyL ?s ?_; (case s => k_dflt walk_at "ev.hg")) | (refine' r_app ?s ?e ?_; (case s => k_dflt walk_at "ev.hg"); (case e => k_dflt walk_at "ev.szl"))
  | refine' r_sl ?_ | refine' r_part ?_ | refine' r_exint ?_ | refine' r_nopart ?_ | (refine' r_slL ?s ?_; (case s => k_dflt walk_at "ev.sq")) | refine' r_revL ?_ | (refine' r_exrev ?s ?_; (case s => k_dflt walk_at "ev.sq"))
  | (refine' r_eq ?e ?_; (case e => k_dflt exact rfl)) | (refine' r_ne ?e ?_; (case e => k_dflt exact rfl)) | refine' r_par ?_ | refine' r_expar ?_ | refine' r_par3 ?_ | refine' r_expar3 ?_ | refine' r_methK ?_ | refine' r_callKw ?_ | refine' r_ckw ?_ | refine' r_zipL ?_ | refine' r_augS ?_ | refine' r_ipI ?_ | refine' r_ienumS ?_ | (refine' r_sum ?s ?_; (case s => k_dflt walk_at "ev.sq")) | (refine' r_glst ?s ?e ?_; (case s => k_dflt walk_at "ev.sq"); (case e => k_dflt exact rfl))
  | (refine' r_cat ?a ?b ?e ?_; (case a => k_dflt walk_at "ev.hg"); (case b => k_dflt walk_at "ev.hg"); (case e => k_dflt walk_at "ev.sz"))
  | refine' r_for ?_ | refine' r_lc ?_ | refine' r_ilist ?_ | (refine' r_exil ?s ?_; (case s => k_dflt walk_at "ev.sq")) | refine' r_itup ?_ | (refine' r_exit ?s ?_; (case s => k_dflt walk_at "ev.st"))
  | refine' r_irng1 ?_ | refine' r_irng2 ?_ | refine' r_irng3 ?_ | refine' r_izip ?_ | refine' r_izip3 ?_ | refine' r_izip4 ?_ | (refine' r_exz3 ?a ?b ?c ?_; (case a => k_dflt walk_at "ev.sq"); (case b => k_dflt walk_at "ev.sq"); (case c => k_dflt walk_at "ev.sq")) | (refine' r_exz4 ?a ?b ?c ?d ?_; (case a => k_dflt walk_at "ev.sq"); (case b => k_dflt walk_at "ev.sq"); (case c => k_dflt walk_at "ev.sq"); (case d => k_dflt walk_at "ev.sq")) | refine' r_ienum ?_
  | (refine' r_exz ?a ?b ?_; (case a => k_dflt walk_at "ev.sq"); (case b => k_dflt walk_at "ev.sq")) | (refine' r_exen ?a ?_; (case a => k_dflt walk_at "ev.sq"))
  | refine' r_yes ?_ | (refine' r_len ?s ?_; (case s => k_dflt walk_at "ev.sq")) | (refine' r_lenT ?s ?_; (case s => k_dflt walk_at "ev.st")) | refine' r_int1 ?_ | refine' r_int2 ?_ | refine' r_int3 ?_
  | (refine' r_mk ?e ?_; (case e => k_dflt exact Nat.le_of_ble_eq_true rfl))
  | refine' r_chain3 ?_ | refine' r_tru ?_ | (refine' r_truL ?s ?_; (case s => k_dflt walk_at "ev.sq")) | refine' r_bm0 ?_ | refine' r_star ?_ | (refine' r_exstarT ?s ?_; (case s => k_dflt walk_at "ev.st")) | (refine' r_aug ?s ?_; (case s => k_dflt exact rfl)) | refine' r_break ?_ | refine' r_cont ?_ | refine' r_gsl ?_
  | refine' r_make ?_ | refine' r_meth ?_ | refine' r_prop ?_ | refine' r_fld ?_ | refine' r_sfld ?_ | refine' r_next ?_)
/-- data of a depth -/
inductive Ak : Nat → Od → Prop where
  | non {n : Nat} : Ak n .non
  | bl {n : Nat} (b : Bool) : Ak n (.bl b)
  | int {n : Nat} (i : Int) : Ak n (.int i)
  | str {n : Nat} (s : Str) : Ak n (.str s)
  | lst {n : Nat} {ds : List Od} (l : ds.length ≤ 10000) (h : ∀ d ∈ ds, Ak n d) : Ak (n + 1) (.lst ds)
  | tup {n : Nat} {ds : List Od} (l : ds.length ≤ 10000) (h : ∀ d ∈ ds, Ak n d) : Ak (n + 1) (.tup ds)
def Od.isB : Od → Bool
  | .bl _ => true
  | _ => false
def Od.isI : Od → Bool
  | .bl _ => true
  | .int _ => true
  | _ => false
def Od.isS : Od → Bool
  | .str _ => true
  | _ => false
def Od.isQ : Od → Bool
  | .lst _ => true
  | .tup _ => true
  | _ => false
section
variable {K : PySem.W.Frag} {H : Hp} {Q : VK} {v : V} {d : Od}
theorem Od.kitB (d : Od) : PySem.W.kitOne K (.type d.ty) (.type "bool") = some d.isB := by
  cases d with
  | non => exact kit_ty (a := "NoneType") (b := "bool") (r := false) (by decide +kernel)
  | bl _ => exact kit_ty (a := "bool") (b := "bool") (r := true) (by decide +kernel)
  | int _ => exact kit_ty (a := "int") (b := "bool") (r := false) (by decide +kernel)
  | str _ => exact kit_ty (a := "str") (b := "bool") (r := false) (by decide +kernel)
  | lst _ => exact kit_ty (a := "list") (b := "bool") (r := false) (by decide +kernel)
  | tup _ => exact kit_ty (a := "tuple") (b := "bool") (r := false) (by decide +kernel)
  | dic => exact kit_ty (a := "dict") (b := "bool") (r := false) (by decide +kernel)
theorem Od.kitI (d : Od) : PySem.W.kitOne K (.type d.ty) (.type "int") = some d.isI := by
  cases d with
  | non => exact kit_ty (a := "NoneType") (b := "int") (r := false) (by decide +kernel)
  | bl _ => exact kit_ty (a := "bool") (b := "int") (r := true) (by decide +kernel)
  | int _ => exact kit_ty (a := "int") (b := "int") (r := true) (by decide +kernel)
  | str _ => exact kit_ty (a := "str") (b := "int") (r := false) (by decide +kernel)
  | lst _ => exact kit_ty (a := "list") (b := "int") (r := false) (by decide +kernel)
  | tup _ => exact kit_ty (a := "tuple") (b := "int") (r := false) (by decide +kernel)
  | dic => exact kit_ty (a := "dict") (b := "int") (r := false) (by decide +kernel)
theorem Od.kitS (d : Od) : PySem.W.kitOne K (.type d.ty) (.type "str") = some d.isS := by
  cases d with
  | non => exact kit_ty (a := "NoneType") (b := "str") (r := false) (by decide +kernel)
  | bl _ => exact kit_ty (a := "bool") (b := "str") (r := false) (by decide +kernel)
  | int _ => exact kit_ty (a := "int") (b := "str") (r := false) (by decide +kernel)
  | str _ => exact kit_ty (a := "str") (b := "str") (r := true) (by decide +kernel)
  | lst _ => exact kit_ty (a := "list") (b := "str") (r := false) (by decide +kernel)
  | tup _ => exact kit_ty (a := "tuple") (b := "str") (r := false) (by decide +kernel)
  | dic => exact kit_ty (a := "dict") (b := "str") (r := false) (by decide +kernel)
theorem r_isB (h : OAt H v d) (q : Q (.bl d.isB) H) : rIsi K [v, .ty "bool"] H Q := r_isi (.ty _) h.tyX d.kitB q
theorem r_isIo (h : OAt H v d) (q : Q (.bl d.isI) H) : rIsi K [v, .ty "int"] H Q := r_isi (.ty _) h.tyX d.kitI q
theorem r_isS (h : OAt H v d) (q : Q (.bl d.isS) H) : rIsi K [v, .ty "str"] H Q := r_isi (.ty _) h.tyX d.kitS q
/-- a list or a tuple -/
theorem r_isQ {t : Addr} (h : OAt H v d) (ht : H t = some (.tup [.ty "list", .ty "tuple"])) (q : Q (.bl d.isQ) H) : rIsiT K [v, .ref t] H Q :=
  ⟨v, t, _, _, [.type "list", .type "tuple"], d.isQ, rfl, ht, .cons (.ty _) (.cons (.ty _) .nil), h.tyX, kitAny_cons d.kitL (fun y => kitAny_cons d.kitT (fun z => by
    rw [kitAny_nil, show d.isQ = false by cases d <;> first | rfl | exact Bool.noConfusion (show true = false from y) | exact Bool.noConfusion (show true = false from z)]) (fun z => by cases d <;> first | rfl | exact Bool.noConfusion (show false = true from z))) (fun z => by cases d <;> first | rfl | exact Bool.noConfusion (show false = true from z)), q⟩
end
theorem ix_any {K : PySem.W.Frag} {H : Hp} {Q : VK} {a : Addr} {xs : List V} {i : Int} {v : V} (s : SqL K H a xs ∨ SqT K H a xs) (e : atI xs i = some v) (q : Q v H) : rIx K (.ref a) (.int i) H Q := by
  rcases s with s | s
  · exact .inl ⟨a, xs, i, v, rfl, rfl, s, e, q⟩
  · exact .inr (.inl ⟨a, xs, i, v, rfl, rfl, s, e, q⟩)
section
variable {P : Program} {w : World} {K : PySem.W.Frag} {mg : Str → Option Value} {base : Heap}
def sp_none : Sp := fun _ _ _ _ => False
def sp_ak (n : Nat) : Sp := fun vs H Q _ => ∃ (x y : V) (d : Od), vs = [x, y] ∧ OAt H x d ∧ OAt H y d ∧ Ak n d ∧ ∀ H', Fr [] H H' → Q (.bl true) H'
def sp__law_alike (K : PySem.W.Frag) : Sp := sp_ak 3
abbrev FkAk (P : Program) (w : World) (K : PySem.W.Frag) (mg : Str → Option Value) (base : Heap) (l : Nat) (sp : Sp) : Prop := Fk P w K mg base "_law_alike" ["found", "due"] l sp s__law_alike "_law_alike"
theorem ka_bot (T : Tx fa fn K mg base) : FkAk P w K mg base 1 sp_none := by
  refine T.fk 18 36 (q := "_law_alike") (st := s__law_alike) sc__law_alike (fun _ _ _ _ _ _ us hl => match us, hl with | [_, _], _ => rfl) (fun vs H Q E h => h.elim) (fun cdv A outer s H vs Q E hr h => h.elim)
theorem ka_step (T : Tx fa fn K mg base) {l n : Nat} {sp0 : Sp} (rc : FkAk P w K mg base l sp0)
    (h0 : ∀ {x y : V} {d : Od} {m : Nat} {H : Hp} {Q : VK}, n = m + 1 → OAt H x d → OAt H y d → Ak m d → (∀ H', Fr [] H H' → Q (.bl true) H') → sp0 [x, y] H Q E0) : FkAk P w K mg base (l + 1) (sp_ak n) := by
  refine T.fk 18 36 (q := "_law_alike") (st := s__law_alike) sc__law_alike (fun _ _ _ _ _ _ us hl => match us, hl with | [_, _], _ => rfl) (fun vs H Q E h => ?_) (fun cdv A outer s H vs Q E hr h => ?_)
  · obtain ⟨x, y, d, rfl, _⟩ := h
    rfl
  · obtain ⟨x, y, d, rfl, hx, hy, ak, k⟩ := h
    refine ⟨_, (pss_cons (ps_if (pt_val (pe_callB call_isiT (by rfl) (T.fr 0) (by decide +kernel) (pa_cons (pv 1) (pa_cons (pe_tup (pa_cons (pe_bltn (v := .ty "list") (u := .type "list") (by rfl) (T.fr 7) (by decide +kernel) rfl) (pa_cons (pe_bltn (v := .ty "tuple") (u := .type "tuple") (by rfl) (T.fr 20) (by decide +kernel) rfl) pa_nil))) pa_nil)))) (pss_cons (ps_if (PW.pt (pw_or (pt_not (pt_val (pe_callB call_isiT (by rfl) (T.fr 0) (by decide +kernel) (pa_cons (pv 0) (pa_cons (pe_tup (pa_cons (pe_bltn (v := .ty "list") (u := .type "list") (by rfl) (T.fr 7) (by decide +kernel) rfl) (pa_cons (pe_bltn (v := .ty "tuple") (u := .type "tuple") (by rfl) (T.fr 20) (by decide +kernel) rfl) pa_nil))) pa_nil))))) (pw_or1 (pt_cmpR op_ne (pe_callB call_isi (by rfl) (T.fr 0) (by decide +kernel) (pa_cons (pv 0) (pa_cons (pe_bltn (v := .ty "list") (u := .type "list") (by rfl) (T.fr 7) (by decide +kernel) rfl) pa_nil))) (pe_callB call_isi (by rfl) (T.fr 0) (by decide +kernel) (pa_cons (pv 1) (pa_cons (pe_bltn (v := .ty "list") (u := .type "list") (by rfl) (T.fr 7) (by decide +kernel) rfl) pa_nil))) (nomark _))))) (pss_one (ps_ret pe_bl)) pss_nil)
      (pss_cons (ps_if (pt_cmpR op_ne (pe_callB call_len_seq (by rfl) (T.fr 5) (by decide +kernel) (pa_cons (pv 0) pa_nil)) (pe_callB call_len_seq (by rfl) (T.fr 5) (by decide +kernel) (pa_cons (pv 1) pa_nil)) (nomark _)) (pss_one (ps_ret pe_bl)) pss_nil)
      (pss_one (ps_ret (pe_callB (cr_all rfl) (by rfl) (T.fr 4) (by decide +kernel) (pa_cons (pe_lc (own := [("k", 2)]) (tt := tYes) (te := (tCall sp0 [] E0 (tCons (tOp (rIx K) (tVar 0) (tVar 2)) (tCons (tOp (rIx K) (tVar 1) (tVar 2)) tNil)))) rfl sc__law_alike.nd (pi_range1 (by rfl) (T.fr 24) (pa_cons (pe_callB call_len_seq (by rfl) (T.fr 5) (by decide +kernel) (pa_cons (pv 1) pa_nil)) pa_nil)) (blkOk_by (N := ["found", "due", "k"]) (sc := defScope s__law_alike) (by decide +kernel)) (fun _ _ _ _ _ => (pg_name (i := 2) sc__law_alike.nd rfl (by first | exact Or.inl rfl | exact Or.inr rfl))) (fun _ _ _ _ _ => pts_nil) (fun _ _ _ _ _ => (pe_f rc hr (pa_cons (pe_ix ix_seq (pv 0) (pv 2) (fun _ _ => rfl)) (pa_cons (pe_ix ix_seq (pv 1) (pv 2) (fun _ _ => rfl)) pa_nil)) (Nat.le_refl _)))) pa_nil)))))) pss_nil)
      (pss_cons (ps_if (PW.pt (pw_or (pt_cmpR op_ne (pe_callB call_isi (by rfl) (T.fr 0) (by decide +kernel) (pa_cons (pv 0) (pa_cons (pe_bltn (v := .ty "bool") (u := .type "bool") (by rfl) (T.fr 1) (by decide +kernel) rfl) pa_nil))) (pe_callB call_isi (by rfl) (T.fr 0) (by decide +kernel) (pa_cons (pv 1) (pa_cons (pe_bltn (v := .ty "bool") (u := .type "bool") (by rfl) (T.fr 1) (by decide +kernel) rfl) pa_nil))) (nomark _)) (pw_or1 (pt_cmpR op_ne (pe_callB call_isi (by rfl) (T.fr 0) (by decide +kernel) (pa_cons (pv 0) (pa_cons (pe_bltn (v := .ty "int") (u := .type "int") (by rfl) (T.fr 2) (by decide +kernel) rfl) pa_nil))) (pe_callB call_isi (by rfl) (T.fr 0) (by decide +kernel) (pa_cons (pv 1) (pa_cons (pe_bltn (v := .ty "int") (u := .type "int") (by rfl) (T.fr 2) (by decide +kernel) rfl) pa_nil))) (nomark _))))) (pss_one (ps_ret pe_bl)) pss_nil)
      (pss_one (ps_ret (pe_and (pe_cmpR op_eq (pe_callB call_isi (by rfl) (T.fr 0) (by decide +kernel) (pa_cons (pv 0) (pa_cons (pe_bltn (v := .ty "str") (u := .type "str") (by rfl) (T.fr 35) (by decide +kernel) rfl) pa_nil))) (pe_callB call_isi (by rfl) (T.fr 0) (by decide +kernel) (pa_cons (pv 1) (pa_cons (pe_bltn (v := .ty "str") (u := .type "str") (by rfl) (T.fr 35) (by decide +kernel) rfl) pa_nil))) (nomark _)) (pe_one (pe_cmpR op_eq (pv 0) (pv 1) (nomark _)))))))), ?_⟩
    walk_at "ev0"
    intro t1 kt1
    have f1 : Fr [] H _ := (Fr.refl H).new (o := .tup [.ty "list", .ty "tuple"]) kt1
    have hx1 := hx.mono f1
    have hy1 := hy.mono f1
    walk_at "ev"
    refine r_isQ hy1 upd_same ?_
    generalize upd H t1 _ = H1 at f1 hx1 hy1 ⊢
    walk_at "ev"
    cases q : d.isQ with
    | false =>
      have xy : x = y := by
        cases hx1 <;> cases hy1 <;> first | rfl | exact Bool.noConfusion (show true = false from q) | exact nomatch ak
      have fl : scal y y = true := by
        cases hy1 <;> first | rfl | exact Bool.noConfusion (show true = false from q) | exact nomatch ak
      refine iteF ?_
      walk_at "ev"
      refine r_isB hx1 ?_
      walk_at "ev"
      refine r_isB hy1 ?_
      walk_at "ev"
      refine r_iteNY rfl ?_
      walk_at "ev"
      refine r_isIo hx1 ?_
      walk_at "ev"
      refine r_isIo hy1 ?_
      walk_at "ev"
      refine r_iteNY rfl ?_
      walk_at "ev"
      refine r_isS hx1 ?_
      walk_at "ev"
      refine r_isS hy1 ?_
      walk_at "ev"
      rw [xy]
      rw [if_pos (decide_eq_true rfl)]
      walk_at "ev"
      refine r_eq fl ?_
      rw [decide_eq_true rfl]
      exact k _ f1
    | true =>
      have sq : ∃ (a b : Addr) (xs ys : List V) (ds : List Od) (m : Nat), x = .ref a ∧ y = .ref b ∧ (SqL K H1 a xs ∨ SqT K H1 a xs) ∧ (SqL K H1 b ys ∨ SqT K H1 b ys) ∧ OAll H1 xs ds ∧ OAll H1 ys ds ∧ ds.length ≤ 10000 ∧ n = m + 1 ∧ ∀ e ∈ ds, Ak m e := by
        cases ak with
        | lst l h =>
          cases hx1 with | lst g1 t1 =>
          cases hy1 with | lst g2 t2 =>
          exact ⟨_, _, _, _, _, _, rfl, rfl, .inl (SqL.of g1), .inl (SqL.of g2), t1, t2, l, rfl, h⟩
        | tup l h =>
          cases hx1 with | tup g1 t1 =>
          cases hy1 with | tup g2 t2 =>
          exact ⟨_, _, _, _, _, _, rfl, rfl, .inr (SqT.of g1), .inr (SqT.of g2), t1, t2, l, rfl, h⟩
        | non => exact Bool.noConfusion (show false = true from q)
        | bl b => exact Bool.noConfusion (show false = true from q)
        | int b => exact Bool.noConfusion (show false = true from q)
        | str b => exact Bool.noConfusion (show false = true from q)
      refine iteT ?_
      walk_at "ev"
      intro t2 kt2
      have f2 : Fr [] H1 _ := (Fr.refl H1).new (o := .tup [.ty "list", .ty "tuple"]) kt2
      have hx2 := hx1.mono f2
      have hy2 := hy1.mono f2
      walk_at "ev"
      refine r_isQ hx2 upd_same ?_
      rw [q]
      generalize upd H1 t2 _ = H2 at f2 hx2 hy2 ⊢
      walk_at "ev"
      refine r_isLo hx2 ?_
      walk_at "ev"
      refine r_isLo hy2 ?_
      walk_at "ev"
      refine r_iteNY rfl ?_
      walk_at "ev"
      obtain ⟨a, b, xs, ys, ds, m, rfl, rfl, sx, sy, ax, ay, l9, rfl, hak⟩ := sq
      have lx := ax.length
      have ly := ay.length
      have sx2 : SqL K H2 a xs ∨ SqT K H2 a xs := sx.imp (fun h => f2.sql h nin) (fun h => f2.sqt h nin)
      have sy2 : SqL K H2 b ys ∨ SqT K H2 b ys := sy.imp (fun h => f2.sql h nin) (fun h => f2.sqt h nin)
      refine ⟨a, xs, rfl, sx2, ?_⟩
      walk_at "ev"
      refine ⟨b, ys, rfl, sy2, ?_⟩
      walk_at "ev"
      refine r_iteNY (by rw [lx, ly]) ?_
      walk_at "ev"
      refine ⟨b, ys, rfl, sy2, ?_⟩
      walk_at "ev"
      refine ⟨by omega, by omega, ?_⟩
      have ey : ((ys.length : Int)).toNat = ys.length := by omega
      rw [ey]
      refine lc_pure (walk_range (lo := 0)) (fun _ => .bl true) (show ys.length ≤ 100000 by omega) (fun H' e => trivial) (fun i H' x H'' y => by rw [y.1]; exact Fr.refl _) (fun i x H' H'' R' hi e yy kR => ?_) (fun D H3 hD e3 hD' => ?_)
      · obtain ⟨rfl, rfl⟩ := yy
        have e1 : (0 : Int) + (i : Int) = (i : Int) := by omega
        simp only [e1]
        have fe := f2.trans e
        obtain ⟨v1, g1⟩ : ∃ v1, xs[i]? = some v1 := ⟨_, List.getElem?_eq_getElem (by omega)⟩
        obtain ⟨v2, g2⟩ : ∃ v2, ys[i]? = some v2 := ⟨_, List.getElem?_eq_getElem (by omega)⟩
        obtain ⟨d1, q1, o1⟩ := ax.get g1
        obtain ⟨d2, q2, o2⟩ := ay.get g2
        obtain rfl : d1 = d2 := Option.some.inj (q1.symm.trans q2)
        walk_at "ev"
        refine ⟨rfl, ?_⟩
        walk_at "ev"
        refine ix_any (sx2.imp (fun h => e.sql h nin) (fun h => e.sqt h nin)) (atI_nat g1) ?_
        walk_at "ev"
        refine ix_any (sy2.imp (fun h => e.sql h nin) (fun h => e.sqt h nin)) (atI_nat g2) ?_
        walk_at "ev"
        exact h0 rfl (o1.mono fe) (o2.mono fe) (hak _ (List.mem_of_getElem? q1)) fun H4 f4 => kR _ f4
      walk_at "ev"
      refine r_allB (bs := (List.range ys.length).map fun _ => true) (b := true) (SqL.of (by rw [List.map_map]; exact hD')) (by simp) ?_
      exact k _ ((f1.trans f2).trans e3)
theorem ak_up {m : Nat} {x y : V} {d : Od} {H : Hp} {Q : VK} (h1 : OAt H x d) (h2 : OAt H y d) (a : Ak m d) (k : ∀ H', Fr [] H H' → Q (.bl true) H') : sp_ak m [x, y] H Q E0 := ⟨x, y, d, rfl, h1, h2, a, k⟩
theorem ka_0 (T : Tx fa fn K mg base) : FkAk P w K mg base 2 (sp_ak 0) := ka_step (n := 0) T (ka_bot T) fun e => nomatch e
theorem ka_1 (T : Tx fa fn K mg base) : FkAk P w K mg base 3 (sp_ak 1) := ka_step (n := 1) T (ka_0 T) fun e h1 h2 a k => by obtain rfl := Nat.succ.inj e; exact ak_up h1 h2 a k
theorem ka_2 (T : Tx fa fn K mg base) : FkAk P w K mg base 4 (sp_ak 2) := ka_step (n := 2) T (ka_1 T) fun e h1 h2 a k => by obtain rfl := Nat.succ.inj e; exact ak_up h1 h2 a k
theorem k__law_alike (T : Tx fa fn K mg base) : Fk P w K mg base "_law_alike" ["found", "due"] 5 (sp__law_alike K) s__law_alike "_law_alike" := ka_step (n := 3) T (ka_2 T) fun e h1 h2 a k => by obtain rfl := Nat.succ.inj e; exact ak_up h1 h2 a k
/-- lists of integers that are alike -/
theorem oall_ints {H : Hp} : ∀ ns : List Int, OAll H (ns.map V.int) (ns.map Od.int)
  | [] => .nil
  | n :: r => .cons (.int n) (oall_ints r)
end
set_option Elab.async false
set_option linter.all false
set_option maxRecDepth 100000
set_option maxHeartbeats 4000000
set_option exponentiation.threshold 3000
theorem wdiv {i : Int} {j : Int} (h0 : 0 < j) (h : j < 1000) : CDivW i j := wide_div (b := 10) h0 (by have e : (2 : Nat) ^ 10 = 1024 := rfl; omega) (by decide) (by decide)
/-- the last one anew -/
def lastL (L : List Int) (x : Int) : List Int := L.dropLast ++ [x]
theorem lastL_len {L : List Int} {x : Int} (h : 1 ≤ L.length) : (lastL L x).length = L.length := by
  unfold lastL
  rw [List.length_append, List.length_dropLast, List.length_singleton]
  omega
theorem lastL_nth {L : List Int} {x : Int} {i : Nat} (h : i + 1 < L.length) : nth (lastL L x) i = nth L i := by
  unfold lastL
  rw [nth_app_lt (by rw [List.length_dropLast]; omega)]
  unfold nth
  rw [List.getD_eq_getElem?_getD, List.getD_eq_getElem?_getD, List.getElem?_dropLast, if_pos (by omega)]
theorem lastL_end {L : List Int} {x : Int} : nth (lastL L x) (L.length - 1) = x := nth_app_at (by rw [List.length_dropLast])
set_option Elab.async false
set_option linter.all false
set_option maxRecDepth 100000
set_option maxHeartbeats 4000000
set_option exponentiation.threshold 3000
theorem lc_drawX {K : PySem.W.Frag} {a : Addr} {xs : List Int} (p : Int → Int → Prop) {m : Nat} {te : TE} {vs : List Nat} {q : Nat} {σ : L2.St} {Q : VK} {ls : Addr} {H0 H1 : Hp} {j : Addr} {E : List En} (ha : ∀ (k : Nat) (H' : Hp) (E' : List En), ZJ ls H0 H' j k (E' ++ E) → SqL K H' a (xs.map V.int)) (hn : xs.length ≤ 10000) (hw : ∀ v, wipe ((wipe σ vs).set q (some v)) vs = wipe σ vs) (z : ZJ ls H0 H1 j (m + xs.length) E)
    (he : ∀ (i : Nat) (H' : Hp) (D : Addr) (ns : List Int) (R : VK), i < xs.length → ZJ ls H0 H' j (m + (xs.length - i)) ((2, D, .lst (ns.map V.int)) :: E) → (∀ (x : Int) (G : Hp), p (nth xs i) x → ZJ ls H0 G j (m + (xs.length - (i + 1))) ((2, D, .lst (ns.map V.int)) :: E) → R (.int x) G) →
      te ((wipe σ vs).set q (some (.int (nth xs i)))) H' R)
    (hd : ∀ (D : Addr) (ns : List Int) (H' : Hp), ns.length = xs.length → (∀ i, i < xs.length → p (nth xs i) (nth ns i)) → ZJ ls H0 H' j m ((2, D, .lst (ns.map V.int)) :: E) → Q (.ref D) H') : LcJ (gName q) tYes te vs σ Q (Itl K a) H1 := by
  intro D hD
  have e1 : (xs.map V.int).length = xs.length := List.length_map _
  refine lc_it (walk_list (xs := xs.map V.int)) (fun i H' => i ≤ xs.length ∧ ∃ ns : List Int, ns.length = i ∧ (∀ k, k < i → p (nth xs k) (nth ns k)) ∧ ZJ ls H0 H' j (m + (xs.length - i)) ((2, D, .lst (ns.map V.int)) :: E)) ⟨Nat.zero_le _, [], rfl, (fun k hk => absurd hk (Nat.not_lt_zero k)), z.alloc (.lst []) hD⟩ (fun i H' _ ⟨_, ns, _, _, z⟩ => ha _ H' [(2, D, .lst (ns.map V.int))] z) (fun i x H' H'' hi p0 y => ?_) (fun H' p0 => ?_)
  · obtain ⟨p1, ns, p2, pp, p3⟩ := p0
    obtain ⟨rfl, hx⟩ := y
    obtain rfl := nth_at hx
    refine ⟨hw _, he i _ D ns (fun y H4 => ∃ acc, H4 D = some (.lst acc) ∧ acc.length < sizeLine ∧ (i + 1 ≤ xs.length ∧ ∃ ns : List Int, ns.length = i + 1 ∧ (∀ k, k < i + 1 → p (nth xs k) (nth ns k)) ∧ ZJ ls H0 (upd H4 D (.lst (acc ++ [y]))) j (m + (xs.length - (i + 1))) ((2, D, .lst (ns.map V.int)) :: E))) (by omega) p3 fun x G px q => ?_⟩
    refine ⟨ns.map V.int, q.get (.head _), ?_, by omega, ns ++ [x], by rw [List.length_append, p2] <;> rfl, fun k hk => ?_, ?_⟩
    · rw [List.length_map, p2]
      exact Nat.lt_of_lt_of_le (show i < 100001 by omega) (by decide)
    · by_cases c : k < i
      · rw [nth_app_lt (by omega)]
        exact pp k c
      · have e : k = i := by omega
        subst e
        rw [nth_app_at p2.symm]
        exact px
    · rw [List.map_append]
      exact q.set 0 _ rfl
  · obtain ⟨p1, ns, p2, pp, p3⟩ := p0
    rw [e1] at p2 pp p3
    exact hd D ns H' p2 pp (by
      rw [Nat.sub_self] at p3
      exact p3)
set_option Elab.async false
set_option linter.all false
set_option maxRecDepth 100000
set_option maxHeartbeats 4000000
set_option exponentiation.threshold 2000
/-- lists of integers that lie -/
structure Rws (H : Hp) (ws : List Addr) (xs : List (List Int)) : Prop where
  len : ws.length = xs.length
  at_ : ∀ k a, ws[k]? = some a → H a = some (.lst ((xs.getD k []).map V.int))
theorem Rws.mono {H H' : Hp} {ws : List Addr} {xs : List (List Int)} (h : Rws H ws xs) (f : Fr [] H H') : Rws H' ws xs := ⟨h.len, fun k a e => f _ _ nin (h.at_ k a e)⟩
/-- lists of two, each of two lists of integers -/
structure Sts (H : Hp) (ts : List Addr) (ps : List (Addr × Addr)) (ss : List (List Int × List Int)) : Prop where
  lt : ts.length = ss.length
  lp : ps.length = ss.length
  tup : ∀ k t, ts[k]? = some t → H t = some (.tup [.ref (ps.getD k (0, 0)).1, .ref (ps.getD k (0, 0)).2])
  low : ∀ k, k < ss.length → H (ps.getD k (0, 0)).1 = some (.lst ((ss.getD k ([], [])).1.map V.int))
  high : ∀ k, k < ss.length → H (ps.getD k (0, 0)).2 = some (.lst ((ss.getD k ([], [])).2.map V.int))
theorem Sts.mono {H H' : Hp} {ts : List Addr} {ps : List (Addr × Addr)} {ss : List (List Int × List Int)} (h : Sts H ts ps ss) (f : Fr [] H H') : Sts H' ts ps ss :=
  ⟨h.lt, h.lp, fun k t e => f _ _ nin (h.tup k t e), fun k hk => f _ _ nin (h.low k hk), fun k hk => f _ _ nin (h.high k hk)⟩
/-- streams as the document wants them, of n times -/
structure SsOk (n : Nat) (ss : List (List Int × List Int)) : Prop where
  one : 1 ≤ ss.length
  most : ss.length ≤ 20
  n1 : 1 ≤ n
  n200 : n ≤ 200
  l1 : ∀ k, k < ss.length → (ss.getD k ([], [])).1.length = n
  l2 : ∀ k, k < ss.length → (ss.getD k ([], [])).2.length = n
  le : ∀ k, k < ss.length → ∀ i, i < n → nth (ss.getD k ([], [])).1 i ≤ nth (ss.getD k ([], [])).2 i
  last : ∀ k, k < ss.length → nth (ss.getD k ([], [])).1 (n - 1) = nth (ss.getD k ([], [])).2 (n - 1)
def colS (xs : List (List Int)) (i : Nat) : Int := (xs.map fun r => nth r i).sum
def addC (n : Nat) (xs : List (List Int)) : List Int := (List.range n).map (colS xs)
theorem addC_len {n : Nat} {xs : List (List Int)} : (addC n xs).length = n := by simp [addC]
theorem atL {ns : List Int} (h : 1 ≤ ns.length) : atI (ns.map V.int) (-1) = some (.int (nth ns (ns.length - 1))) := by
  rcases List.eq_nil_or_concat ns with rfl | ⟨ms, x, rfl⟩
  · exact absurd h (by decide)
  · rw [List.concat_eq_append, List.map_append]
    show atI (_ ++ [V.int x]) (-1) = _
    rw [atI_last, nth_app_at (by simp)]
section
variable {P : Program} {w : World} {K : PySem.W.Frag} {mg : Str → Option Value} {base : Heap}
def sp__is_stream (K : PySem.W.Frag) : Sp := fun vs H Q _ => ∃ (t l h : Addr) (ns ms : List Int), vs = [.ref t] ∧ H t = some (.tup [.ref l, .ref h]) ∧ H l = some (.lst (ns.map V.int)) ∧ H h = some (.lst (ms.map V.int)) ∧
  (1 ≤ ns.length ∧ ns.length ≤ 200 ∧ ms.length = ns.length ∧ (∀ i, i < ns.length → nth ns i ≤ nth ms i) ∧ nth ns (ns.length - 1) = nth ms (ns.length - 1)) ∧ ∀ H', Fr [] H H' → Q (.bl true) H'
theorem k__is_stream (T : Tx fa fn K mg base) : Fk P w K mg base "_is_stream" ["thing"] 3 (sp__is_stream K) s__is_stream "_is_stream" := by
  refine T.fk 9 21 (q := "_is_stream") (st := s__is_stream) sc__is_stream (fun _ _ _ _ _ _ us hl => match us, hl with | [_], _ => rfl) (fun vs H Q E h => ?_) (fun cdv A outer s H vs Q E hr h => ?_)
  · obtain ⟨t, l, h', ns, ms, rfl, _⟩ := h
    rfl
  · obtain ⟨t, l, h', ns, ms, rfl, ht, hl, hh, ⟨n1, n2, n3, n4, n5⟩, k⟩ := h
    refine ⟨_, (pss_cons (ps_if (PW.pt (pw_or (pt_not (pt_val (pe_callB call_isi (by rfl) (T.fr 0) (by decide +kernel) (pa_cons (pv 0) (pa_cons (pe_bltn (v := .ty "tuple") (u := .type "tuple") (by rfl) (T.fr 20) (by decide +kernel) rfl) pa_nil))))) (pw_or1 (pt_cmpR op_ne (pe_callB call_len_seq (by rfl) (T.fr 5) (by decide +kernel) (pa_cons (pv 0) pa_nil)) pe_int (nomark _))))) (pss_one (ps_ret pe_bl)) pss_nil)
      (pss_cons (ps_asg (pv 0) (pg_tup rfl (pgs_cons (pg_name (i := 1) sc__is_stream.nd rfl (by first | exact Or.inl rfl | exact Or.inr rfl)) (pgs_cons (pg_name (i := 2) sc__is_stream.nd rfl (by first | exact Or.inl rfl | exact Or.inr rfl)) pgs_nil))))
      (pss_cons (ps_if (PW.pt (pw_or (pt_not (pt_val (pe_f (k_is_whole_list T) hr (pa_cons (pv 1) pa_nil)))) (pw_or (pt_not (pt_val (pe_f (k_is_whole_list T) hr (pa_cons (pv 2) pa_nil)))) (pw_or1 (pt_cmpR op_ne (pe_callB call_len_seq (by rfl) (T.fr 5) (by decide +kernel) (pa_cons (pv 1) pa_nil)) (pe_callB call_len_seq (by rfl) (T.fr 5) (by decide +kernel) (pa_cons (pv 2) pa_nil)) (nomark _)))))) (pss_one (ps_ret pe_bl)) pss_nil)
      (pss_one (ps_ret (pe_and (pe_f (k_is_at_most T) hr (pa_cons (pv 1) (pa_cons (pv 2) pa_nil))) (pe_one (pe_cmpR op_eq (pe_ix ix_list (pv 1) (pe_un un_neg pe_int) (fun _ _ => rfl)) (pe_ix ix_list (pv 2) (pe_un un_neg pe_int) (fun _ _ => rfl)) (nomark _))))))))), ?_⟩
    walk_at "ev0"
    refine r_isi (.ty _) (.base (.tup ht)) (kit_ty (b := "tuple") (r := true) (by decide +kernel)) ?_
    walk_at "ev"
    refine r_iteNY (show V.int _ = V.int 2 from rfl) ?_
    walk_at "ev"
    refine ⟨l, ns, rfl, hl, ⟨n1, n2⟩, fun H1 f1 => ?_⟩
    have hl1 := f1 _ _ nin hl
    have hh1 := f1 _ _ nin hh
    walk_at "ev"
    refine ⟨h', ms, rfl, hh1, ⟨by omega, by omega⟩, fun H2 f2 => ?_⟩
    have hl2 := f2 _ _ nin hl1
    have hh2 := f2 _ _ nin hh1
    walk_at "ev"
    refine r_iteNY (show V.int _ = V.int _ by rw [List.length_map, List.length_map, n3]) ?_
    walk_at "ev"
    refine ⟨l, h', ns, ms, rfl, hl2, hh2, by omega, fun H3 f3 => ?_⟩
    have hl3 := f3 _ _ nin hl2
    have hh3 := f3 _ _ nin hh2
    rw [leAll_iff.mpr fun i h1 _ => n4 i h1]
    walk_at "ev"
    refine r_at (atL n1) ?_
    walk_at "ev"
    refine r_at (atL (by omega)) ?_
    walk_at "ev"
    rw [decide_eq_true (show V.int _ = V.int _ by rw [n3, n5])]
    exact k _ ((f1.trans f2).trans f3)
def sp__check_streams (K : PySem.W.Frag) : Sp := fun vs H Q _ => ∃ (a : Addr) (ts : List Addr) (ps : List (Addr × Addr)) (ss : List (List Int × List Int)) (n : Nat), vs = [.ref a] ∧ H a = some (.lst (ts.map V.ref)) ∧ Sts H ts ps ss ∧ SsOk n ss ∧ ∀ H', Fr [] H H' → Q .non H'
theorem k__check_streams (T : Tx fa fn K mg base) : Fk P w K mg base "_check_streams" ["streams"] 4 (sp__check_streams K) s__check_streams "_check_streams" := by
  refine T.fk 10 23 (q := "_check_streams") (st := s__check_streams) sc__check_streams (fun _ _ _ _ _ _ us hl => match us, hl with | [_], _ => rfl) (fun vs H Q E h => ?_) (fun cdv A outer s H vs Q E hr h => ?_)
  · obtain ⟨a, ts, ps, ss, n, rfl, _⟩ := h
    rfl
  · obtain ⟨a, ts, ps, ss, n, rfl, ha, st, ok, k⟩ := h
    refine ⟨_, (pss_cons (ps_if (PW.pt (pw_or (pt_not (pt_val (pe_callB call_isi (by rfl) (T.fr 0) (by decide +kernel) (pa_cons (pv 0) (pa_cons (pe_bltn (v := .ty "list") (u := .type "list") (by rfl) (T.fr 7) (by decide +kernel) rfl) pa_nil))))) (pw_or1 (pt_not (pt_chain op_le op_le pe_int (pe_callB call_len_seq (by rfl) (T.fr 5) (by decide +kernel) (pa_cons (pv 0) pa_nil)) (pe_globI (T.int 22))))))) (pss_one ps_never) pss_nil)
      (pss_cons (ps_if (pt_not (pt_val (pe_callB (cr_all rfl) (by rfl) (T.fr 4) (by decide +kernel) (pa_cons (pe_lc (own := [("stream", 1)]) (tt := tYes) (te := (tCall (sp__is_stream K) [] E0 (tCons (tVar 1) tNil))) rfl sc__check_streams.nd (pi_list (pv 0)) (blkOk_by (N := ["streams", "stream", "low", "_"]) (sc := defScope s__check_streams) (by decide +kernel)) (fun _ _ _ _ _ => (pg_name (i := 1) sc__check_streams.nd rfl (by first | exact Or.inl rfl | exact Or.inr rfl))) (fun _ _ _ _ _ => pts_nil) (fun _ _ _ _ _ => (pe_f (k__is_stream T) hr (pa_cons (pv 1) pa_nil)))) pa_nil)))) (pss_one ps_never) pss_nil)
      (pss_one (ps_if (pt_val (pe_callB (cr_any rfl) (by rfl) (T.fr 12) (by decide +kernel) (pa_cons (pe_lc (own := [("low", 2), ("_", 3)]) (tt := tYes) (g := (gTup K 2 (gCons (gName 2) (gCons (gName 3) gNil)))) (te := (tOp rNe (tCB (rLenX K) (tCons (tVar 2) tNil)) (tCB (rLenX K) (tCons (tOp (rIxT K) (tOp (rIxL K) (tVar 0) (tC (.int 0))) (tC (.int 0))) tNil)))) rfl sc__check_streams.nd (pi_list (pv 0)) (blkOk_by (N := ["streams", "stream", "low", "_"]) (sc := defScope s__check_streams) (by decide +kernel)) (fun _ _ _ _ _ => (pg_tup rfl (pgs_cons (pg_name (i := 2) sc__check_streams.nd rfl (by first | exact Or.inl rfl | exact Or.inr rfl)) (pgs_cons (pg_name (i := 3) sc__check_streams.nd rfl (by first | exact Or.inl rfl | exact Or.inr rfl)) pgs_nil)))) (fun _ _ _ _ _ => pts_nil) (fun _ _ _ _ _ => (pe_cmpR op_ne (pe_callB call_len_seq (by rfl) (T.fr 5) (by decide +kernel) (pa_cons (pv 2) pa_nil)) (pe_callB call_len_seq (by rfl) (T.fr 5) (by decide +kernel) (pa_cons (pe_ix ix_tup (pe_ix ix_list (pv 0) pe_int (fun _ _ => rfl)) pe_int (fun _ _ => rfl)) pa_nil)) (nomark _)))) pa_nil))) (pss_one ps_never) pss_nil)))), ?_⟩
    walk_at "ev0"
    refine r_isi (.ty _) (.base (.lst ha)) (kit_ty (b := "list") (r := true) (by decide +kernel)) ?_
    walk_at "ev"
    have lt := st.lt
    have lp := st.lp
    have o1 := ok.one
    have o2 := ok.most
    have o3 := ok.n1
    have o4 := ok.n200
    refine r_iteY (by rw [List.length_map]; omega) ?_
    walk_at "ev"
    refine r_iteNY (by rw [List.length_map]; omega) ?_
    walk_at "ev"
    refine lc_pure (walk_list (xs := ts.map V.ref)) (fun _ => .bl true) (by rw [List.length_map]; omega) (fun H' e => e.sql (SqL.of ha) nin) (fun i H' x H'' y => by rw [y.1]; exact Fr.refl _) (fun i x H' H'' R hi e y kR => ?_) (fun D H3 hD e hD' => ?_)
    · obtain ⟨rfl, hx⟩ := y
      rw [List.length_map, lt] at hi
      have et : ts[i]? = some ts[i] := List.getElem?_eq_getElem (by omega)
      rw [List.getElem?_map, et] at hx
      obtain rfl := Option.some.inj hx
      have st1 := st.mono e
      walk_at "ev"
      refine ⟨rfl, ?_⟩
      walk_at "ev"
      have l1 := ok.l1 i hi
      have l2 := ok.l2 i hi
      have le := ok.le i hi
      have la := ok.last i hi
      refine ⟨ts[i], _, _, _, _, rfl, st1.tup i _ et, st1.low i hi, st1.high i hi, ⟨by omega, by omega, by omega, fun j hj => le j (by omega), by rw [l1]; exact la⟩, fun H4 f4 => kR _ f4⟩
    rw [List.length_map] at hD'
    walk_at "ev"
    refine r_allB (bs := (List.range ts.length).map fun _ => true) (b := true) (SqL.of (by rw [List.map_map]; exact hD')) (by rw [List.all_map]; exact List.all_eq_true.mpr fun _ _ => rfl) ?_
    have ha3 := e _ _ nin ha
    have st3 := st.mono e
    clear hD' hD
    walk_at "ev"
    have e0 : ts[0]? = some ts[0] := List.getElem?_eq_getElem (by omega)
    have t0 : atI (ts.map V.ref) 0 = some (.ref ts[0]) := atI_nat (j := 0) (by rw [List.getElem?_map, e0]; rfl)
    refine lc_pure (walk_list (xs := ts.map V.ref)) (fun _ => .bl false) (by rw [List.length_map]; omega) (fun H' e => e.sql (SqL.of ha3) nin) (fun i H' x H'' y => by rw [y.1]; exact Fr.refl _) (fun i x H' H'' R hi e y kR => ?_) (fun D H5 hD e5 hD' => ?_)
    · obtain ⟨rfl, hx⟩ := y
      rw [List.length_map, lt] at hi
      have et : ts[i]? = some ts[i] := List.getElem?_eq_getElem (by omega)
      rw [List.getElem?_map, et] at hx
      obtain rfl := Option.some.inj hx
      have st4 := st3.mono e
      have ha4 := e _ _ nin ha3
      have g1 := st4.tup i _ et
      have g2 := st4.low i hi
      have g3 := st4.tup 0 _ e0
      have g4 := st4.low 0 (by omega)
      have l1 := ok.l1 i hi
      have l2 := ok.l1 0 (by omega)
      walk_at "ev"
      refine ⟨rfl, ?_⟩
      walk_at "ev"
      refine r_at t0 ?_
      walk_at "ev"
      rw [show (!decide (V.int (((ss.getD i ([], [])).1.map V.int).length : Nat) = V.int (((ss.getD 0 ([], [])).1.map V.int).length : Nat))) = false by rw [List.length_map, List.length_map, l1, l2, decide_eq_true rfl]; rfl]
      exact kR _ (Fr.refl _)
    rw [List.length_map] at hD'
    walk_at "ev"
    refine r_anyB (bs := (List.range ts.length).map fun _ => false) (b := false) (SqL.of (by rw [List.map_map]; exact hD')) (by rw [List.any_map]; exact List.any_eq_false.mpr fun _ _ => Bool.false_ne_true) ?_
    walk_at "ev"
    exact k _ (e.trans e5)
def sp__added (K : PySem.W.Frag) : Sp := fun vs H Q _ => ∃ (a : Addr) (ws : List Addr) (xs : List (List Int)) (n : Nat), vs = [.ref a] ∧ H a = some (.lst (ws.map V.ref)) ∧ Rws H ws xs ∧ (1 ≤ xs.length ∧ xs.length ≤ 1000 ∧ n ≤ 1000 ∧ ∀ k, k < xs.length → (xs.getD k []).length = n) ∧
  ∀ p H', H p = none → Fr [] H H' → H' p = some (.lst ((addC n xs).map V.int)) → Q (.ref p) H'
theorem k__added (T : Tx fa fn K mg base) : Fk P w K mg base "_added" ["rows"] 1 (sp__added K) s__added "_added" := by
  refine T.fk 11 26 (q := "_added") (st := s__added) sc__added (fun _ _ _ _ _ _ us hl => match us, hl with | [_], _ => rfl) (fun vs H Q E h => ?_) (fun cdv A outer s H vs Q E hr h => ?_)
  · obtain ⟨a, ws, xs, n, rfl, _⟩ := h
    rfl
  · obtain ⟨a, ws, xs, n, rfl, ha, rw', ⟨x1, x2, hn, hx⟩, k⟩ := h
    refine ⟨_, (pss_one (ps_ret (pe_lc (own := [("at", 2)]) (tt := tYes) (te := (tCB (rSum K) (tCons (tLc (iList K (tVar 0)) (gName 1) tYes (tOp (rIxL K) (tVar 1) (tVar 2)) [1]) tNil))) rfl sc__added.nd (pi_range1 (by rfl) (T.fr 24) (pa_cons (pe_callB call_len_seq (by rfl) (T.fr 5) (by decide +kernel) (pa_cons (pe_ix ix_list (pv 0) pe_int (fun _ _ => rfl)) pa_nil)) pa_nil)) (blkOk_by (N := ["rows", "row", "at"]) (sc := defScope s__added) (by decide +kernel)) (fun _ _ _ _ _ => (pg_name (i := 2) sc__added.nd rfl (by first | exact Or.inl rfl | exact Or.inr rfl))) (fun _ _ _ _ _ => pts_nil) (fun _ _ _ _ _ => (pe_callB (cr_sum rfl) (by rfl) (T.fr 25) (by decide +kernel) (pa_cons (pe_lc (own := [("row", 1)]) (tt := tYes) (te := (tOp (rIxL K) (tVar 1) (tVar 2))) rfl sc__added.nd (pi_list (pv 0)) (blkRel (blkOk_by (N := ["rows", "row", "at"]) (sc := ({ kind := PySem.ScopeKind.function, names := [ (PySem.Str.ofString ".0", PySem.NameKind.local), (PySem.Str.ofString "at", PySem.NameKind.cell), (PySem.Str.ofString "sum", PySem.NameKind.globalImplicit), (PySem.Str.ofString "rows", PySem.NameKind.free)], isGenerator := false, isCoroutine := false, more := [] : PySem.Scope })) (by decide +kernel))) (fun _ _ _ _ _ => (pg_name (i := 1) sc__added.nd rfl (by first | exact Or.inl rfl | exact Or.inr rfl))) (fun _ _ _ _ _ => pts_nil) (fun _ _ _ _ _ => (pe_ix ix_list (pv 1) (pv 2) (fun _ _ => rfl)))) pa_nil)))))), ?_⟩
    walk_at "ev0"
    have wl := rw'.len
    have e0 : ws[0]? = some ws[0] := List.getElem?_eq_getElem (by omega)
    have g0 := rw'.at_ 0 _ e0
    have l0 := hx 0 (by omega)
    refine ⟨_, atI_nat (j := 0) (by rw [List.getElem?_map, e0]; rfl), ?_⟩
    walk_at "ev"
    rw [List.length_map, l0]
    refine ⟨by omega, by omega, ?_⟩
    refine lc_pure (walk_range (lo := 0) (n := n)) (fun i => .int (colS xs i)) (by omega) (fun H' e => trivial) (fun i H' x H'' y => by rw [y.1]; exact Fr.refl _) (fun i x H' H'' R hi e y kR => ?_) (fun D H3 hD e hD' => ?_)
    · obtain ⟨rfl, rfl⟩ := y
      have rw1 := rw'.mono e
      have ha1 := e _ _ nin ha
      have ez : (0 : Int) + (i : Int) = (i : Int) := Int.zero_add _
      simp only [ez]
      walk_at "ev"
      refine ⟨rfl, ?_⟩
      walk_at "ev"
      refine lc_pure (walk_list (xs := ws.map V.ref)) (fun k => .int (nth (xs.getD k []) i)) (by rw [List.length_map]; omega) (fun H' e => e.sql (SqL.of ha1) nin) (fun i H' x H'' y => by rw [y.1]; exact Fr.refl _) (fun k x H7 H8 R' hk e7 y kR' => ?_) (fun D H8 hD e8 hD' => ?_)
      · obtain ⟨rfl, hx'⟩ := y
        rw [List.length_map, wl] at hk
        have et : ws[k]? = some ws[k] := List.getElem?_eq_getElem (by omega)
        rw [List.getElem?_map, et] at hx'
        obtain rfl := Option.some.inj hx'
        have g := (rw1.mono e7).at_ k _ et
        have lk := hx k hk
        walk_at "ev"
        refine ⟨rfl, ?_⟩
        walk_at "ev"
        refine r_at (atN (by omega)) ?_
        exact kR' _ (Fr.refl _)
      rw [List.length_map, wl] at hD'
      have em : (List.range xs.length).map (fun k => V.int (nth (xs.getD k []) i)) = (xs.map fun r => nth r i).map V.int := by
        refine List.ext_getElem? fun k => ?_
        rw [List.getElem?_map, List.getElem?_map, List.getElem?_map]
        by_cases h : k < xs.length
        · rw [List.getElem?_range h]
          show some (V.int (nth (xs.getD k []) i)) = _
          rw [List.getD_eq_getElem?_getD, List.getElem?_eq_getElem h]
          rfl
        · rw [List.getElem?_eq_none (by rw [List.length_range]; omega), List.getElem?_eq_none (by omega)]
          rfl
      rw [em] at hD'
      walk_at "ev"
      exact kR _ e8
    exact k _ _ hD e (by unfold addC; rw [List.map_map]; exact hD')
end
set_option Elab.async false
set_option linter.all false
set_option maxRecDepth 100000
set_option maxHeartbeats 4000000
set_option exponentiation.threshold 2000
section
variable {ss : List (List Int × List Int)} {hs : List Int} {n k i : Nat}
def lowA (ss : List (List Int × List Int)) (k i : Nat) : Int := ((ss.drop k).map fun s => nth s.1 i).sum
def highA (ss : List (List Int × List Int)) (k i : Nat) : Int := ((ss.drop k).map fun s => nth s.2 i).sum
theorem lowA_step (h : k < ss.length) : lowA ss k i = nth (ss.getD k ([], [])).1 i + lowA ss (k + 1) i := by
  unfold lowA
  rw [List.drop_eq_getElem_cons h, List.map_cons, List.sum_cons, List.getD_eq_getElem?_getD, List.getElem?_eq_getElem h]
  rfl
theorem highA_step (h : k < ss.length) : highA ss k i = nth (ss.getD k ([], [])).2 i + highA ss (k + 1) i := by
  unfold highA
  rw [List.drop_eq_getElem_cons h, List.map_cons, List.sum_cons, List.getD_eq_getElem?_getD, List.getElem?_eq_getElem h]
  rfl
theorem lowA_end : lowA ss ss.length i = 0 := by
  unfold lowA
  rw [List.drop_length]
  rfl
theorem highA_end : highA ss ss.length i = 0 := by
  unfold highA
  rw [List.drop_length]
  rfl
theorem low_high0 (ok : SsOk n ss) (hi : i < n) : ∀ m k, ss.length - k = m → k ≤ ss.length → lowA ss k i ≤ highA ss k i
  | 0, k, e, hk => by
    obtain rfl : k = ss.length := by omega
    rw [lowA_end, highA_end]
    exact Int.le_refl _
  | m + 1, k, e, hk => by
    have ih := low_high0 ok hi m (k + 1) (by omega) (by omega)
    have h1 := lowA_step (ss := ss) (k := k) (i := i) (by omega)
    have h2 := highA_step (ss := ss) (k := k) (i := i) (by omega)
    have h3 := ok.le k (by omega) i hi
    omega
theorem low_high (ok : SsOk n ss) (hi : i < n) (hk : k ≤ ss.length) : lowA ss k i ≤ highA ss k i := low_high0 ok hi _ k rfl hk
/-- what is left at a place when k streams have got theirs -/
def leftA (ss : List (List Int × List Int)) (hs : List Int) : Nat → Nat → Int
  | 0, i => nth hs i
  | k + 1, i => leftA ss hs k i - min (nth (ss.getD k ([], [])).2 i) (leftA ss hs k i - lowA ss (k + 1) i)
def sumA (ss : List (List Int × List Int)) (hs : List Int) (k i : Nat) : Int := min (nth (ss.getD k ([], [])).2 i) (leftA ss hs k i - lowA ss (k + 1) i)
theorem leftA_step : leftA ss hs (k + 1) i = leftA ss hs k i - sumA ss hs k i := rfl
theorem leftA_in (ok : SsOk n ss) (hi : i < n) (h : lowA ss 0 i ≤ nth hs i ∧ nth hs i ≤ highA ss 0 i) : ∀ k, k ≤ ss.length → lowA ss k i ≤ leftA ss hs k i ∧ leftA ss hs k i ≤ highA ss k i
  | 0, _ => h
  | k + 1, hk => by
    have ih := leftA_in ok hi h k (by omega)
    have h1 := lowA_step (ss := ss) (k := k) (i := i) (by omega)
    have h2 := highA_step (ss := ss) (k := k) (i := i) (by omega)
    have h3 := ok.le k (by omega) i hi
    have h4 : lowA ss (k + 1) i ≤ highA ss (k + 1) i := low_high ok hi hk
    rw [leftA_step]
    unfold sumA
    omega
theorem sumA_in (ok : SsOk n ss) (hi : i < n) (h : lowA ss 0 i ≤ nth hs i ∧ nth hs i ≤ highA ss 0 i) (hk : k < ss.length) : nth (ss.getD k ([], [])).1 i ≤ sumA ss hs k i ∧ sumA ss hs k i ≤ nth (ss.getD k ([], [])).2 i := by
  have a := leftA_in ok hi h k (by omega)
  have h1 := lowA_step (ss := ss) (i := i) hk
  have h3 := ok.le k hk i hi
  unfold sumA
  omega
theorem leftA_end (ok : SsOk n ss) (hi : i < n) (h : lowA ss 0 i ≤ nth hs i ∧ nth hs i ≤ highA ss 0 i) : leftA ss hs ss.length i = 0 := by
  have a := leftA_in ok hi h ss.length (Nat.le_refl _)
  rw [lowA_end, highA_end] at a
  omega
theorem sumA_all : ∀ m, ((List.range m).map fun k => sumA ss hs k i).sum = nth hs i - leftA ss hs m i
  | 0 => by
    show (0 : Int) = nth hs i - nth hs i
    omega
  | m + 1 => by
    rw [List.range_succ, List.map_append, List.sum_append, sumA_all m, leftA_step]
    simp only [List.map_cons, List.map_nil, List.sum_cons, List.sum_nil]
    omega
theorem low_last (ok : SsOk n ss) : lowA ss 0 (n - 1) = highA ss 0 (n - 1) := by
  have g : ∀ m k, ss.length - k = m → k ≤ ss.length → lowA ss k (n - 1) = highA ss k (n - 1) := by
    intro m
    induction m with
    | zero =>
      intro k e hk
      obtain rfl : k = ss.length := by omega
      rw [lowA_end, highA_end]
    | succ m ih =>
      intro k e hk
      have ih := ih (k + 1) (by omega) (by omega)
      have h1 := lowA_step (ss := ss) (k := k) (i := n - 1) (by omega)
      have h2 := highA_step (ss := ss) (k := k) (i := n - 1) (by omega)
      have h3 := ok.last k (by omega)
      omega
  exact g _ 0 rfl (Nat.zero_le _)
theorem col_low : addC n (ss.map (·.1)) = (List.range n).map (lowA ss 0) := by
  unfold addC
  refine List.map_congr_left fun i _ => ?_
  unfold colS lowA
  rw [List.map_map, List.drop_zero]
  rfl
theorem col_high : addC n (ss.map (·.2)) = (List.range n).map (highA ss 0) := by
  unfold addC
  refine List.map_congr_left fun i _ => ?_
  unfold colS highA
  rw [List.map_map, List.drop_zero]
  rfl
def lowL (ss : List (List Int × List Int)) (n k : Nat) : List Int := (List.range n).map (lowA ss k)
def leftL (ss : List (List Int × List Int)) (hs : List Int) (n k : Nat) : List Int := (List.range n).map (leftA ss hs k)
def sumL (ss : List (List Int × List Int)) (hs : List Int) (n k : Nat) : List Int := (List.range n).map (sumA ss hs k)
/-- a stream's share -/
def shL (ss : List (List Int × List Int)) (hs : List Int) (n k : Nat) : List Int := diffs (0 :: sumL ss hs n k)
theorem getD1 (h : k < ss.length) : (ss.map (·.1)).getD k [] = (ss.getD k ([], [])).1 := by
  rw [List.getD_eq_getElem?_getD, List.getD_eq_getElem?_getD, List.getElem?_map, List.getElem?_eq_getElem h]
  rfl
theorem getD2 (h : k < ss.length) : (ss.map (·.2)).getD k [] = (ss.getD k ([], [])).2 := by
  rw [List.getD_eq_getElem?_getD, List.getD_eq_getElem?_getD, List.getElem?_map, List.getElem?_eq_getElem h]
  rfl
def jointPD (n : Nat) (ss : List (List Int × List Int)) (as bs : List Int) : PD := ⟨lowL ss n 0, (List.range n).map (highA ss 0), as, bs⟩
theorem joint_ok {as bs : List Int} (ok : SsOk n ss) (ha : as.length = n) (hb : bs.length = n) (ab : ∀ i, i < n → nth as i ≤ nth bs i) : (jointPD n ss as bs).Ok := by
  have l : (jointPD n ss as bs).L.length = n := by simp [jointPD, lowL]
  have n1 := ok.n1
  refine ⟨by rw [l]; exact n1, by rw [l]; exact ok.n200, by rw [l]; simp [jointPD], by rw [l]; exact ha, by rw [l]; exact hb, fun i hi => ?_, fun i hi => ?_, ?_⟩
  · rw [l] at hi
    show nth ((List.range n).map (lowA ss 0)) i ≤ nth ((List.range n).map (highA ss 0)) i
    rw [nth_range hi, nth_range hi]
    exact low_high ok hi (Nat.zero_le _)
  · rw [l] at hi
    exact ab i hi
  · rw [l]
    show nth ((List.range n).map (lowA ss 0)) (n - 1) = nth ((List.range n).map (highA ss 0)) (n - 1)
    rw [nth_range (by omega), nth_range (by omega)]
    exact low_last ok
end
section
variable {P : Program} {w : World} {K : PySem.W.Frag} {mg : Str → Option Value} {base : Heap}
theorem Sts.lows {H : Hp} {ts : List Addr} {ps : List (Addr × Addr)} {ss : List (List Int × List Int)} (st : Sts H ts ps ss) : Rws H ((List.range ss.length).map fun k => (ps.getD k (0, 0)).1) (ss.map (·.1)) := by
  refine ⟨by simp, fun k a e => ?_⟩
  by_cases h : k < ss.length
  · rw [List.getElem?_map, List.getElem?_range h] at e
    obtain rfl := Option.some.inj e
    rw [getD1 h]
    exact st.low k h
  · rw [List.getElem?_eq_none (by simp; omega)] at e
    cases e
theorem Sts.highs {H : Hp} {ts : List Addr} {ps : List (Addr × Addr)} {ss : List (List Int × List Int)} (st : Sts H ts ps ss) : Rws H ((List.range ss.length).map fun k => (ps.getD k (0, 0)).2) (ss.map (·.2)) := by
  refine ⟨by simp, fun k a e => ?_⟩
  by_cases h : k < ss.length
  · rw [List.getElem?_map, List.getElem?_range h] at e
    obtain rfl := Option.some.inj e
    rw [getD2 h]
    exact st.high k h
  · rw [List.getElem?_eq_none (by simp; omega)] at e
    cases e
def sp__joint_bounds (K : PySem.W.Frag) : Sp := fun vs H Q _ => ∃ (a : Addr) (ts : List Addr) (ps : List (Addr × Addr)) (ss : List (List Int × List Int)) (n : Nat), vs = [.ref a] ∧ H a = some (.lst (ts.map V.ref)) ∧ Sts H ts ps ss ∧ SsOk n ss ∧
  ∀ t l h H', Fr [] H H' → New H H' [(t, .tup [.ref l, .ref h]), (h, .lst (((List.range n).map (highA ss 0)).map V.int)), (l, .lst ((lowL ss n 0).map V.int))] → Q (.ref t) H'
theorem k__joint_bounds (T : Tx fa fn K mg base) : Fk P w K mg base "_joint_bounds" ["streams"] 2 (sp__joint_bounds K) s__joint_bounds "_joint_bounds" := by
  refine T.fk 12 27 (q := "_joint_bounds") (st := s__joint_bounds) sc__joint_bounds (fun _ _ _ _ _ _ us hl => match us, hl with | [_], _ => rfl) (fun vs H Q E h => ?_) (fun cdv A outer s H vs Q E hr h => ?_)
  · obtain ⟨a, ts, ps, ss, n, rfl, _⟩ := h
    rfl
  · obtain ⟨a, ts, ps, ss, n, rfl, ha, st, ok, k⟩ := h
    have lt := st.lt
    have o1 := ok.one
    have o2 := ok.most
    have o4 := ok.n200
    refine ⟨_, (pss_one (ps_ret (pe_tup (pa_cons (pe_f (k__added T) hr (pa_cons (pe_lc (own := [("low", 1), ("_", 2)]) (tt := tYes) (g := (gTup K 2 (gCons (gName 1) (gCons (gName 2) gNil)))) (te := (tVar 1)) rfl sc__joint_bounds.nd (pi_list (pv 0)) (blkOk_by (N := ["streams", "low", "_", "high"]) (sc := defScope s__joint_bounds) (by decide +kernel)) (fun _ _ _ _ _ => (pg_tup rfl (pgs_cons (pg_name (i := 1) sc__joint_bounds.nd rfl (by first | exact Or.inl rfl | exact Or.inr rfl)) (pgs_cons (pg_name (i := 2) sc__joint_bounds.nd rfl (by first | exact Or.inl rfl | exact Or.inr rfl)) pgs_nil)))) (fun _ _ _ _ _ => pts_nil) (fun _ _ _ _ _ => (pv 1))) pa_nil)) (pa_cons (pe_f (k__added T) hr (pa_cons (pe_lc (own := [("_", 2), ("high", 3)]) (tt := tYes) (g := (gTup K 2 (gCons (gName 2) (gCons (gName 3) gNil)))) (te := (tVar 3)) rfl sc__joint_bounds.nd (pi_list (pv 0)) (blkOk_by (N := ["streams", "low", "_", "high"]) (sc := defScope s__joint_bounds) (by decide +kernel)) (fun _ _ _ _ _ => (pg_tup rfl (pgs_cons (pg_name (i := 2) sc__joint_bounds.nd rfl (by first | exact Or.inl rfl | exact Or.inr rfl)) (pgs_cons (pg_name (i := 3) sc__joint_bounds.nd rfl (by first | exact Or.inl rfl | exact Or.inr rfl)) pgs_nil)))) (fun _ _ _ _ _ => pts_nil) (fun _ _ _ _ _ => (pv 3))) pa_nil)) pa_nil))))), ?_⟩
    walk_at "ev0"
    refine lc_pure (walk_list (xs := ts.map V.ref)) (fun k => .ref (ps.getD k (0, 0)).1) (by rw [List.length_map]; omega) (fun H' e => e.sql (SqL.of ha) nin) (fun i H' x H'' y => by rw [y.1]; exact Fr.refl _) (fun i x H' H'' R hi e y kR => ?_) (fun D H3 hD e hD' => ?_)
    · obtain ⟨rfl, hx⟩ := y
      rw [List.length_map, lt] at hi
      have et : ts[i]? = some ts[i] := List.getElem?_eq_getElem (by omega)
      rw [List.getElem?_map, et] at hx
      obtain rfl := Option.some.inj hx
      have g1 := (st.mono e).tup i _ et
      walk_at "ev"
      refine ⟨rfl, ?_⟩
      walk_at "ev"
      exact kR _ (Fr.refl _)
    rw [List.length_map, lt] at hD'
    have z1 := (Z.start0 H).comp e hD hD'
    have st1 := st.mono e
    have gD := hD'
    clear e hD hD'
    walk_at "ev"
    refine ⟨D, (List.range ss.length).map fun k => (ps.getD k (0, 0)).1, ss.map (·.1), n, rfl, by rw [List.map_map]; exact gD, st1.lows, ⟨by rw [List.length_map]; omega, by rw [List.length_map]; omega, by omega, fun k hk => by rw [List.length_map] at hk; rw [getD1 hk]; exact ok.l1 k hk⟩, fun p H4 hp f4 gp => ?_⟩
    rw [col_low] at gp
    have z2 := z1.comp f4 hp gp
    have ha4 := z2.keep ha (by simp)
    have st4 := st.mono (z2.fr0 (by simp))
    clear f4 hp gp
    walk_at "ev"
    refine lc_pure (walk_list (xs := ts.map V.ref)) (fun k => .ref (ps.getD k (0, 0)).2) (by rw [List.length_map]; omega) (fun H' e => e.sql (SqL.of ha4) nin) (fun i H' x H'' y => by rw [y.1]; exact Fr.refl _) (fun i x H' H'' R hi e y kR => ?_) (fun D2 H5 hD e hD' => ?_)
    · obtain ⟨rfl, hx⟩ := y
      rw [List.length_map, lt] at hi
      have et : ts[i]? = some ts[i] := List.getElem?_eq_getElem (by omega)
      rw [List.getElem?_map, et] at hx
      obtain rfl := Option.some.inj hx
      have g1 := (st4.mono e).tup i _ et
      walk_at "ev"
      refine ⟨rfl, ?_⟩
      walk_at "ev"
      exact kR _ (Fr.refl _)
    rw [List.length_map, lt] at hD'
    have z3 := z2.comp e hD hD'
    have st5 := st4.mono e
    have gD2 := hD'
    clear e hD hD'
    walk_at "ev"
    refine ⟨D2, (List.range ss.length).map fun k => (ps.getD k (0, 0)).2, ss.map (·.2), n, rfl, by rw [List.map_map]; exact gD2, st5.highs, ⟨by rw [List.length_map]; omega, by rw [List.length_map]; omega, by omega, fun k hk => by rw [List.length_map] at hk; rw [getD2 hk]; exact ok.l2 k hk⟩, fun p2 H6 hp f6 gp => ?_⟩
    rw [col_high] at gp
    have z4 := z3.comp f6 hp gp
    clear f6 hp gp
    walk_at "ev"
    intro t ht
    have z5 := z4.alloc (.tup [.ref p, .ref p2]) ht
    exact k t p p2 _ (z5.fr0 (by simp)) (z5.pick [0, 1, 3] rfl)
def sp_joint (K : PySem.W.Frag) : Sp := fun vs H Q _ => ∃ (a x y : Addr) (ts : List Addr) (ps : List (Addr × Addr)) (ss : List (List Int × List Int)) (n : Nat) (as bs : List Int), vs = [.ref a, .ref x, .ref y] ∧ H a = some (.lst (ts.map V.ref)) ∧ Sts H ts ps ss ∧ SsOk n ss ∧
  H x = some (.lst (as.map V.int)) ∧ H y = some (.lst (bs.map V.int)) ∧ (as.length = n ∧ bs.length = n ∧ ∀ i, i < n → nth as i ≤ nth bs i) ∧ ∀ p H', Fr [] H H' → PlanAt K [] H' p (jointPD n ss as bs) → Q (.ref p) H'
theorem k_joint (T : Tx fa fn K mg base) : Fk P w K mg base "joint" ["streams", "least", "most"] 5 (sp_joint K) s_joint "joint" := by
  refine T.fk 13 28 (q := "joint") (st := s_joint) sc_joint (fun _ _ _ _ _ _ us hl => match us, hl with | [_, _, _], _ => rfl) (fun vs H Q E h => ?_) (fun cdv A outer s H vs Q E hr h => ?_)
  · obtain ⟨a, x, y, ts, ps, ss, n, as, bs, rfl, _⟩ := h
    rfl
  · obtain ⟨a, x, y, ts, ps, ss, n, as, bs, rfl, ha, st, ok, hx, hy, ⟨la, lb, ab⟩, k⟩ := h
    have n1 := ok.n1
    have n2 := ok.n200
    have ll : (lowL ss n 0).length = n := by simp [lowL]
    have jok := joint_ok ok la lb ab
    refine ⟨_, (pss_cons (ps_expr (pe_f (k__check_streams T) hr (pa_cons (pv 0) pa_nil)))
      (pss_cons (ps_asg (pe_f (k__joint_bounds T) hr (pa_cons (pv 0) pa_nil)) (pg_tup rfl (pgs_cons (pg_name (i := 3) sc_joint.nd rfl (by first | exact Or.inl rfl | exact Or.inr rfl)) (pgs_cons (pg_name (i := 4) sc_joint.nd rfl (by first | exact Or.inl rfl | exact Or.inr rfl)) pgs_nil))))
      (pss_cons (ps_if (PW.pt (pw_or (pt_not (pt_val (pe_f (k_is_whole_list T) hr (pa_cons (pv 1) pa_nil)))) (pw_or1 (pt_cmpR op_ne (pe_callB call_len_seq (by rfl) (T.fr 5) (by decide +kernel) (pa_cons (pv 1) pa_nil)) (pe_callB call_len_seq (by rfl) (T.fr 5) (by decide +kernel) (pa_cons (pv 3) pa_nil)) (nomark _))))) (pss_one ps_never) pss_nil)
      (pss_cons (ps_if (PW.pt (pw_or (pt_not (pt_val (pe_f (k_is_whole_list T) hr (pa_cons (pv 2) pa_nil)))) (pw_or (pt_cmpR op_ne (pe_callB call_len_seq (by rfl) (T.fr 5) (by decide +kernel) (pa_cons (pv 2) pa_nil)) (pe_callB call_len_seq (by rfl) (T.fr 5) (by decide +kernel) (pa_cons (pv 3) pa_nil)) (nomark _)) (pw_or1 (pt_not (pt_val (pe_f (k_is_at_most T) hr (pa_cons (pv 1) (pa_cons (pv 2) pa_nil))))))))) (pss_one ps_never) pss_nil)
      (pss_one (ps_ret (pe_mk (k_Plan___init__ T) (T.glo 16) hr (pa_cons (pv 3) (pa_cons (pv 4) (pa_cons (pv 1) (pa_cons (pv 2) pa_nil))))))))))), ?_⟩
    walk_at "ev0"
    refine ⟨a, ts, ps, ss, n, rfl, ha, st, ok, fun H1 f1 => ?_⟩
    walk_at "ev"
    refine ⟨a, ts, ps, ss, n, rfl, f1 _ _ nin ha, st.mono f1, ok, fun t l h' H2 f2 n2 => ?_⟩
    have f12 := f1.trans f2
    have gt := n2.1.2 _ (.head _)
    have gh := n2.1.2 _ (.tail _ (.head _))
    have gl := n2.1.2 _ (.tail _ (.tail _ (.head _)))
    have hx2 := f12 _ _ nin hx
    have hy2 := f12 _ _ nin hy
    dsimp only at gt gh gl
    walk_at "ev"
    refine ⟨x, as, rfl, hx2, ⟨by omega, by omega⟩, fun H3 f3 => ?_⟩
    have hx3 := f3 _ _ nin hx2
    have hy3 := f3 _ _ nin hy2
    have gl3 := f3 _ _ nin gl
    have gh3 := f3 _ _ nin gh
    walk_at "ev"
    refine r_iteNY (show V.int _ = V.int _ by rw [List.length_map, List.length_map, la, ll]) ?_
    walk_at "ev"
    refine ⟨y, bs, rfl, hy3, ⟨by omega, by omega⟩, fun H4 f4 => ?_⟩
    have hx4 := f4 _ _ nin hx3
    have hy4 := f4 _ _ nin hy3
    have gl4 := f4 _ _ nin gl3
    have gh4 := f4 _ _ nin gh3
    walk_at "ev"
    refine r_iteNY (show V.int _ = V.int _ by rw [List.length_map, List.length_map, lb, ll]) ?_
    walk_at "ev"
    refine ⟨x, y, as, bs, rfl, hx4, hy4, by omega, fun H5 f5 => ?_⟩
    rw [leAll_iff.mpr fun i h1 _ => ab i (by omega)]
    have hx5 := f5 _ _ nin hx4
    have hy5 := f5 _ _ nin hy4
    have gl5 := f5 _ _ nin gl4
    have gh5 := f5 _ _ nin gh4
    walk_at "ev"
    refine r_planA (d := jointPD n ss as bs) jok gl5 gh5 hx5 hy5 fun p H6 f6 n6 => ?_
    exact k p H6 ((((f12.trans f3).trans f4).trans f5).trans f6) n6.at
end
set_option Elab.async false
set_option linter.all false
set_option maxRecDepth 100000
set_option maxHeartbeats 4000000
set_option exponentiation.threshold 2000
abbrev enM (M : List (Addr × List Int)) : List En := M.map fun q => ((2, q.1, .lst (q.2.map V.int)) : En)
theorem enM_two {M : List (Addr × List Int)} : ∀ q ∈ enM M, q.1 ≠ 1 := fun q hq => by
  obtain ⟨r, _, rfl⟩ := List.mem_map.mp hq
  exact (by decide : (2 : Nat) ≠ 1)
theorem nin1 {E : List En} (h : ∀ q ∈ E, q.1 ≠ 1) {a : Addr} : ∀ q ∈ E, q.1 = 1 → q.2.1 ≠ a := fun q hq e => absurd e (h q hq)
theorem th3 {E : List En} {a b c : Addr} {o1 o2 o3 : HO} (h : ∀ q ∈ E, q.1 ≠ 1) : ∀ q ∈ ((2, a, o1) : En) :: ((2, b, o2) : En) :: ((2, c, o3) : En) :: E, q.1 ≠ 1 := fun q hq => by
  rcases List.mem_cons.mp hq with rfl | hq
  · exact (by decide : (2 : Nat) ≠ 1)
  rcases List.mem_cons.mp hq with rfl | hq
  · exact (by decide : (2 : Nat) ≠ 1)
  rcases List.mem_cons.mp hq with rfl | hq
  · exact (by decide : (2 : Nat) ≠ 1)
  exact h q hq
theorem pm4 (a b c d : En) (r : List En) : (d :: c :: b :: a :: r).Perm (a :: b :: c :: d :: r) := (List.reverse_perm [a, b, c, d]).append_right r
section
variable {ss : List (List Int × List Int)} {hs : List Int} {n k : Nat}
theorem lowL_len : (lowL ss n k).length = n := by simp [lowL]
theorem leftL_len : (leftL ss hs n k).length = n := by simp [leftL]
theorem sumL_len : (sumL ss hs n k).length = n := by simp [sumL]
theorem leftL_zero (h : hs.length = n) : leftL ss hs n 0 = hs := by
  refine nth_ext (by rw [leftL_len, h]) fun i hi => ?_
  rw [leftL_len] at hi
  unfold leftL
  rw [nth_range hi]
  rfl
end
section
variable {P : Program} {w : World} {K : PySem.W.Frag} {mg : Str → Option Value} {base : Heap}
def sp_shares (K : PySem.W.Frag) : Sp := fun vs H Q _ => ∃ (a r : Addr) (ts : List Addr) (ps : List (Addr × Addr)) (ss : List (List Int × List Int)) (n : Nat) (ns : List Int), vs = [.ref a, .ref r] ∧ H a = some (.lst (ts.map V.ref)) ∧ Sts H ts ps ss ∧ SsOk n ss ∧
  H r = some (.lst (ns.map V.int)) ∧ (ns.length = n ∧ ∀ i, i < n → lowA ss 0 i ≤ nth (heights ns) i ∧ nth (heights ns) i ≤ highA ss 0 i) ∧
  ∀ D (M : List (Addr × List Int)) H', M.map Prod.snd = ((List.range ss.length).map (shL ss (heights ns) n)).reverse → Z H H' ((2, D, .lst (M.reverse.map fun q => .ref q.1)) :: enM M) → Q (.ref D) H'
theorem k_shares (T : Tx fa fn K mg base) : Fk P w K mg base "shares" ["streams", "row"] 5 (sp_shares K) s_shares "shares" := by
  refine T.fk 14 30 (q := "shares") (st := s_shares) sc_shares (fun _ _ _ _ _ _ us hl => match us, hl with | [_, _], _ => rfl) (fun vs H Q E h => ?_) (fun cdv A outer s H vs Q E hr h => ?_)
  · obtain ⟨a, r, ts, ps, ss, n, ns, rfl, _⟩ := h
    rfl
  · obtain ⟨a, r, ts, ps, ss, n, ns, rfl, ha, st, ok, hr', ⟨ln, bnd⟩, k⟩ := h
    have n1 := ok.n1
    have n2 := ok.n200
    have o2 := ok.most
    have lt := st.lt
    have ll : (lowL ss n 0).length = n := lowL_len
    have lh : (heights ns).length = n := by rw [hsTo_len, ln]
    refine ⟨_, (pss_cons (ps_expr (pe_f (k__check_streams T) hr (pa_cons (pv 0) pa_nil)))
      (pss_cons (ps_asg (pe_f (k__joint_bounds T) hr (pa_cons (pv 0) pa_nil)) (pg_tup rfl (pgs_cons (pg_name (i := 2) sc_shares.nd rfl (by first | exact Or.inl rfl | exact Or.inr rfl)) (pgs_cons (pg_name (i := 3) sc_shares.nd rfl (by first | exact Or.inl rfl | exact Or.inr rfl)) pgs_nil))))
      (pss_cons (ps_if (PW.pt (pw_or (pt_not (pt_val (pe_f (k_is_whole_list T) hr (pa_cons (pv 1) pa_nil)))) (pw_or1 (pt_cmpR op_ne (pe_callB call_len_seq (by rfl) (T.fr 5) (by decide +kernel) (pa_cons (pv 1) pa_nil)) (pe_callB call_len_seq (by rfl) (T.fr 5) (by decide +kernel) (pa_cons (pv 2) pa_nil)) (nomark _))))) (pss_one ps_never) pss_nil)
      (pss_cons (ps_set (i := 4) sc_shares.nd rfl (by first | exact Or.inl rfl | exact Or.inr rfl) (pe_f (k_sums_of T) hr (pa_cons (pv 1) pa_nil)))
      (pss_cons (ps_if (PW.pt (pw_or (pt_not (pt_val (pe_f (k_is_at_most T) hr (pa_cons (pv 2) (pa_cons (pv 4) pa_nil))))) (pw_or1 (pt_not (pt_val (pe_f (k_is_at_most T) hr (pa_cons (pv 4) (pa_cons (pv 3) pa_nil)))))))) (pss_one ps_never) pss_nil)
      (pss_cons (ps_set (i := 5) sc_shares.nd rfl (by first | exact Or.inl rfl | exact Or.inr rfl) (pe_lst pa_nil))
      (pss_cons (ps_for PassesOwn.never rfl (pi_list (pv 0)) (pg_tup rfl (pgs_cons (pg_name (i := 6) sc_shares.nd rfl (by first | exact Or.inl rfl | exact Or.inr rfl)) (pgs_cons (pg_name (i := 7) sc_shares.nd rfl (by first | exact Or.inl rfl | exact Or.inr rfl)) pgs_nil))) (pss_cons (ps_setLc (i := 2) (own := [("bound", 9), ("own", 10)]) (tt := tYes) (g := (gTup K 2 (gCons (gName 9) (gCons (gName 10) gNil)))) (te := (tOp (rI0 fun i j => .int (i - j)) (tVar 9) (tVar 10))) rfl sc_shares.nd rfl rfl (sw_true rfl rfl rfl (by decide +kernel)) (pi_zip (by rfl) (T.fr 9) (pa_cons (pv 2) (pa_cons (pv 6) pa_nil))) (blkOk_by (N := ["streams", "row", "low", "high", "left", "told", "own_low", "own_high", "sums", "bound", "own", "amount"]) (sc := defScope s_shares) (by decide +kernel)) (fun _ _ _ _ _ => (pg_tup rfl (pgs_cons (pg_name (i := 9) sc_shares.nd rfl (by first | exact Or.inl rfl | exact Or.inr rfl)) (pgs_cons (pg_name (i := 10) sc_shares.nd rfl (by first | exact Or.inl rfl | exact Or.inr rfl)) pgs_nil)))) (fun _ _ _ _ _ => pts_nil) (fun _ _ _ _ _ => (pe_op op_sub (pv 9) (pv 10))))
      (pss_cons (ps_setLc (i := 8) (own := [("own", 10), ("amount", 11), ("bound", 9)]) (tt := tYes) (g := (gTup K 3 (gCons (gName 10) (gCons (gName 11) (gCons (gName 9) gNil))))) (te := (tCB rMin2X (tCons (tVar 10) (tCons (tOp (rI0 fun i j => .int (i - j)) (tVar 11) (tVar 9)) tNil)))) rfl sc_shares.nd rfl rfl (sw_true rfl rfl rfl (by decide +kernel)) (pi_zip3 (by rfl) (T.fr 9) (pa_cons (pv 7) (pa_cons (pv 4) (pa_cons (pv 2) pa_nil)))) (blkOk_by (N := ["streams", "row", "low", "high", "left", "told", "own_low", "own_high", "sums", "bound", "own", "amount"]) (sc := defScope s_shares) (by decide +kernel)) (fun _ _ _ _ _ => (pg_tup rfl (pgs_cons (pg_name (i := 10) sc_shares.nd rfl (by first | exact Or.inl rfl | exact Or.inr rfl)) (pgs_cons (pg_name (i := 11) sc_shares.nd rfl (by first | exact Or.inl rfl | exact Or.inr rfl)) (pgs_cons (pg_name (i := 9) sc_shares.nd rfl (by first | exact Or.inl rfl | exact Or.inr rfl)) pgs_nil))))) (fun _ _ _ _ _ => pts_nil) (fun _ _ _ _ _ => (pe_callB (call_min2 rfl) (by rfl) (T.fr 29) (by decide +kernel) (pa_cons (pv 10) (pa_cons (pe_op op_sub (pv 11) (pv 9)) pa_nil)))))
      (pss_cons (ps_setLc (i := 4) (own := [("amount", 11), ("own", 10)]) (tt := tYes) (g := (gTup K 2 (gCons (gName 11) (gCons (gName 10) gNil)))) (te := (tOp (rI0 fun i j => .int (i - j)) (tVar 11) (tVar 10))) rfl sc_shares.nd rfl rfl (sw_true rfl rfl rfl (by decide +kernel)) (pi_zip (by rfl) (T.fr 9) (pa_cons (pv 4) (pa_cons (pv 8) pa_nil))) (blkOk_by (N := ["streams", "row", "low", "high", "left", "told", "own_low", "own_high", "sums", "bound", "own", "amount"]) (sc := defScope s_shares) (by decide +kernel)) (fun _ _ _ _ _ => (pg_tup rfl (pgs_cons (pg_name (i := 11) sc_shares.nd rfl (by first | exact Or.inl rfl | exact Or.inr rfl)) (pgs_cons (pg_name (i := 10) sc_shares.nd rfl (by first | exact Or.inl rfl | exact Or.inr rfl)) pgs_nil)))) (fun _ _ _ _ _ => pts_nil) (fun _ _ _ _ _ => (pe_op op_sub (pv 11) (pv 10))))
      (pss_one (ps_expr (pe_bm PySem.F.plainAttrs_list PySem.F.slot_list_append PySem.F.type_list_append mt_append (pv 5) (pa_cons (pe_f (k_entries_of T) hr (pa_cons (pe_op op_cat (pe_lst (pa_cons pe_int pa_nil)) (pv 8)) pa_nil)) pa_nil))))))))
      (pss_one (ps_ret (pv 5)))))))))), ?_⟩
    walk_at "ev0"
    refine ⟨a, ts, ps, ss, n, rfl, ha, st, ok, fun H1 f1 => ?_⟩
    have z1 := (Z.start0 H).same f1
    walk_at "ev"
    refine ⟨a, ts, ps, ss, n, rfl, f1 _ _ nin ha, st.mono f1, ok, fun t l h' H2 f2 nw => ?_⟩
    have z2 := z1.call0 f2 nw
    have gt := nw.1.2 _ (.head _)
    have gh := nw.1.2 _ (.tail _ (.head _))
    have gl := nw.1.2 _ (.tail _ (.tail _ (.head _)))
    have hr2 := (f1.trans f2) _ _ nin hr'
    dsimp only at gt gh gl
    walk_at "ev"
    refine ⟨r, ns, rfl, hr2, ⟨by omega, by omega⟩, fun H3 f3 => ?_⟩
    have hr3 := f3 _ _ nin hr2
    have gl3 := f3 _ _ nin gl
    have gh3 := f3 _ _ nin gh
    walk_at "ev"
    refine r_iteNY (show V.int _ = V.int _ by rw [List.length_map, List.length_map, ln, ll]) ?_
    walk_at "ev"
    refine ⟨r, ns, rfl, hr3, ⟨by omega, by omega⟩, fun p H4 hp f4 gp => ?_⟩
    have gl4 := f4 _ _ nin gl3
    have gh4 := f4 _ _ nin gh3
    have z4 := (z2.same f3).comp f4 hp gp
    walk_at "ev"
    refine ⟨l, p, lowL ss n 0, heights ns, rfl, gl4, gp, by omega, fun H5 f5 => ?_⟩
    rw [leAll_iff.mpr fun i h1 _ => by
      rw [ll] at h1
      unfold lowL
      rw [nth_range h1]
      exact (bnd i h1).1]
    have gl5 := f5 _ _ nin gl4
    have gh5 := f5 _ _ nin gh4
    have gp5 := f5 _ _ nin gp
    walk_at "ev"
    refine ⟨p, h', heights ns, (List.range n).map (highA ss 0), rfl, gp5, gh5, by omega, fun H6 f6 => ?_⟩
    rw [leAll_iff.mpr fun i h1 _ => by
      rw [lh] at h1
      rw [nth_range h1]
      exact (bnd i h1).2]
    have z6 := ((z4.same f5).same f6)
    simp only [List.map_cons, List.map_nil, List.cons_append, List.nil_append] at z6
    clear z1 z2 z4
    walk_at "ev"
    intro D hD
    have z7 := z6.alloc (.lst []) hD
    have z8 : Z H (upd H6 D (.lst [])) ((2, D, .lst ((([] : List (Addr × List Int)).reverse.map fun q => V.ref q.1))) :: (2, l, .lst ((lowL ss n 0).map V.int)) :: (2, p, .lst ((leftL ss (heights ns) n 0).map V.int)) :: enM []) := by
      rw [leftL_zero lh]
      have q := (Z.start0 H).call0 (z7.fr0 (by simp)) (z7.pick (N := [(D, .lst []), (l, .lst ((lowL ss n 0).map V.int)), (p, .lst ((heights ns).map V.int))]) [0, 4, 1] rfl)
      simp only [List.map_cons, List.map_nil, List.append_nil] at q
      exact q
    generalize upd H6 D (.lst []) = H7 at *
    clear z6 z7 hD f1 f2 f3 f4 f5 f6 nw gt gh gl gl3 gh3 gl4 gh4 gl5 gh5 gp gp5 hp hr2 hr3
    walk_at "ev"
    refine for_it (walk_list (xs := ts.map V.ref)) (fun m σ H' => ∃ (la fa : Addr) (u6 u7 u8 : Option V) (M : List (Addr × List Int)), σ = [some (.ref a), some (.ref r), some (.ref la), some (.ref h'), some (.ref fa), some (.ref D), u6, u7, u8, none, none, none] ∧ M.map Prod.snd = ((List.range m).map (shL ss (heights ns) n)).reverse ∧
      Z H H' ((2, D, .lst (M.reverse.map fun q => V.ref q.1)) :: (2, la, .lst ((lowL ss n m).map V.int)) :: (2, fa, .lst ((leftL ss (heights ns) n m).map V.int)) :: enM M)) ⟨l, p, none, none, none, [], rfl, rfl, z8⟩ (fun m σ H' _ pv => ?_) (fun m x σ H8 H9 hk pv y => ?_) (fun σ H8 pv => ?_)
    · obtain ⟨la, fa, u6, u7, u8, M, rfl, _, z⟩ := pv
      exact SqL.of (z.keep ha (nin1 (th3 enM_two)))
    · obtain ⟨la, fa, u6, u7, u8, M, rfl, eM, z⟩ := pv
      obtain ⟨rfl, hx⟩ := y
      rw [List.length_map, lt] at hk
      have et : ts[m]? = some ts[m] := List.getElem?_eq_getElem (by omega)
      rw [List.getElem?_map, et] at hx
      obtain rfl := Option.some.inj hx
      have st9 := st.mono (z.fr0 (th3 enM_two))
      have g1 := st9.tup m _ et
      have g2 := st9.low m hk
      have g3 := st9.high m hk
      have l1 := ok.l1 m hk
      have l2 := ok.l2 m hk
      have gla := z.get (.tail _ (.head _))
      have gfa := z.get (.tail _ (.tail _ (.head _)))
      have lM : M.length = m := by
        have := congrArg List.length eM
        simpa using this
      clear st9
      walk_at "ev"
      refine lc_pure (walk_zip (xs := (lowL ss n m).map V.int) (ys := ((ss.getD m ([], [])).1).map V.int) (n := n) (by rw [List.length_map, List.length_map, lowL_len, l1, Nat.min_self])) (fun i => .int (lowA ss (m + 1) i)) (by omega) (fun H' e => ⟨e.sql (SqL.of gla) nin, e.sql (SqL.of g2) nin⟩)
        (fun i H' x H'' y => by obtain ⟨T, x1, x2, _, h0, rfl, _⟩ := y; exact (Fr.refl _).new h0) (fun i x H' H'' R hi e y kR => ?_) (fun D1 HA hD1 e1 hD1' => ?_)
      · obtain ⟨T, x1, x2, rfl, h0, rfl, g4, g5⟩ := y
        obtain rfl := nth_at g4
        obtain rfl := nth_at g5
        have e9 : nth (lowL ss n m) i - nth (ss.getD m ([], [])).1 i = lowA ss (m + 1) i := by
          have := lowA_step (ss := ss) (i := i) hk
          unfold lowL
          rw [nth_range hi]
          omega
        rw [← e9] at kR
        walk_at "ev"
        refine ⟨rfl, ?_⟩
        walk_at "ev"
        exact kR _ (Fr.refl _)
      have hD1' : HA D1 = some (.lst ((lowL ss n (m + 1)).map V.int)) := by
        unfold lowL
        rw [List.map_map]
        exact hD1'
      have w1 := z.comp e1 hD1 hD1'
      have g31 := e1 _ _ nin g3
      have gfa1 := e1 _ _ nin gfa
      clear e1 hD1
      walk_at "ev"
      refine lc_pure (walk_zip3I (n := n) (xs := (ss.getD m ([], [])).2) (ys := leftL ss (heights ns) n m) (zs := lowL ss n (m + 1)) l2 leftL_len lowL_len) (fun i => .int (sumA ss (heights ns) m i)) (by omega) (fun H' e => ⟨e.sql (SqL.of g31) nin, e.sql (SqL.of gfa1) nin, e.sql (SqL.of hD1') nin⟩)
        (fun i H' x H'' y => by obtain ⟨t, rfl, ht, rfl⟩ := y; exact (Fr.refl _).new ht) (fun i x H' H'' R hi e y kR => ?_) (fun D2 HB hD2 e2 hD2' => ?_)
      · obtain ⟨t, rfl, ht, rfl⟩ := y
        have e9 : min (nth (ss.getD m ([], [])).2 i) (nth (leftL ss (heights ns) n m) i - nth (lowL ss n (m + 1)) i) = sumA ss (heights ns) m i := by
          unfold leftL lowL sumA
          rw [nth_range hi, nth_range hi]
        rw [← e9] at kR
        walk_at "ev"
        refine ⟨rfl, ?_⟩
        walk_at "ev"
        rw [ifmin]
        exact kR _ (Fr.refl _)
      have hD2' : HB D2 = some (.lst ((sumL ss (heights ns) n m).map V.int)) := by
        unfold sumL
        rw [List.map_map]
        exact hD2'
      have w2 := w1.comp e2 hD2 hD2'
      have gfa2 := e2 _ _ nin gfa1
      clear e2 hD2 w1
      walk_at "ev"
      refine lc_pure (walk_zip (xs := (leftL ss (heights ns) n m).map V.int) (ys := (sumL ss (heights ns) n m).map V.int) (n := n) (by rw [List.length_map, List.length_map, leftL_len, sumL_len, Nat.min_self])) (fun i => .int (leftA ss (heights ns) (m + 1) i)) (by omega) (fun H' e => ⟨e.sql (SqL.of gfa2) nin, e.sql (SqL.of hD2') nin⟩)
        (fun i H' x H'' y => by obtain ⟨T, x1, x2, _, h0, rfl, _⟩ := y; exact (Fr.refl _).new h0) (fun i x H' H'' R hi e y kR => ?_) (fun D3 HC hD3 e3 hD3' => ?_)
      · obtain ⟨T, x1, x2, rfl, h0, rfl, g4, g5⟩ := y
        obtain rfl := nth_at g4
        obtain rfl := nth_at g5
        have e9 : nth (leftL ss (heights ns) n m) i - nth (sumL ss (heights ns) n m) i = leftA ss (heights ns) (m + 1) i := by
          unfold leftL sumL
          rw [nth_range hi, nth_range hi]
          rfl
        rw [← e9] at kR
        walk_at "ev"
        refine ⟨rfl, ?_⟩
        walk_at "ev"
        exact kR _ (Fr.refl _)
      have hD3' : HC D3 = some (.lst ((leftL ss (heights ns) n (m + 1)).map V.int)) := by
        unfold leftL
        rw [List.map_map]
        exact hD3'
      have w3 := w2.comp e3 hD3 hD3'
      have gs3 := e3 _ _ nin hD2'
      clear e3 hD3 w2
      walk_at "ev"
      intro c kc
      have w4 := w3.alloc (.lst [.int 0]) kc
      have gs4 := (Fr.refl _).new (J := []) (o := .lst [.int 0]) kc _ _ nin gs3
      have lsm := sumL_len (ss := ss) (hs := heights ns) (n := n) (k := m)
      walk_at "ev"
      intro q kq
      have w5 := w4.alloc (.lst ((0 :: sumL ss (heights ns) n m).map V.int)) kq
      have gq := w5.get (.head _)
      clear w3 w4 gs3 gs4
      walk_at "ev"
      refine ⟨q, 0 :: sumL ss (heights ns) n m, rfl, gq, ⟨by simp, by rw [List.length_cons, lsm]; omega⟩, fun p2 H10 hp2 f10 gp2 => ?_⟩
      have w6 := w5.comp f10 hp2 gp2
      have sz : (M.reverse.map fun q => V.ref q.1).length < sizeLine := smalllt' (by rw [List.length_map, List.length_reverse, lM]; omega)
      have gD := w6.get (.tail _ (.tail _ (.tail _ (.tail _ (.tail _ (.tail _ (.head _)))))))
      walk_at "ev"
      have w7 := w6.set 6 (.lst ((M.reverse.map fun q => V.ref q.1) ++ [.ref p2])) rfl (.inr rfl)
      refine ⟨D1, D3, _, _, _, (p2, shL ss (heights ns) n m) :: M, rfl, ?_, ?_⟩
      · rw [List.map_cons, eM, List.range_succ, List.map_append, List.reverse_append]
        rfl
      · rw [List.reverse_cons, List.map_append]
        have w8 := w7.sub (E' := (2, p2, .lst ((shL ss (heights ns) n m).map V.int)) :: (2, D3, .lst ((leftL ss (heights ns) n (m + 1)).map V.int)) :: (2, D1, .lst ((lowL ss n (m + 1)).map V.int)) :: (2, D, .lst ((M.reverse.map fun q => V.ref q.1) ++ [.ref p2])) :: enM M)
          (.cons₂ _ (.cons _ (.cons _ (.cons₂ _ (.cons _ (.cons₂ _ (.cons₂ _ (.cons _ (.cons _ (List.Sublist.refl _)))))))))) (fun q9 hq e => absurd e (by
            have two : ∀ q9 ∈ ((2, p2, .lst ((shL ss (heights ns) n m).map V.int)) : En) :: (2, q, .lst ((0 :: sumL ss (heights ns) n m).map V.int)) :: (2, c, .lst [.int 0]) :: (2, D3, .lst ((leftL ss (heights ns) n (m + 1)).map V.int)) :: (2, D2, .lst ((sumL ss (heights ns) n m).map V.int)) :: (2, D1, .lst ((lowL ss n (m + 1)).map V.int)) :: (2, D, .lst ((M.reverse.map fun q => V.ref q.1) ++ [.ref p2])) :: (2, la, .lst ((lowL ss n m).map V.int)) :: (2, fa, .lst ((leftL ss (heights ns) n m).map V.int)) :: enM M, q9.1 ≠ 1 := th3 (th3 (th3 enM_two))
            exact two _ hq))
        exact w8.perm (pm4 _ _ _ _ _)
    · obtain ⟨la, fa, u6, u7, u8, M, rfl, eM, z⟩ := pv
      rw [List.length_map, lt] at eM
      walk_at "ev"
      exact k D M _ eM (z.sub (.cons₂ _ (.cons _ (.cons _ (List.Sublist.refl _)))) fun q hq e => absurd e (th3 enM_two q hq))
end
set_option Elab.async false
set_option linter.all false
set_option maxRecDepth 100000
set_option maxHeartbeats 4000000
set_option exponentiation.threshold 2000
def repZ (n : Nat) (x : Int) : List Int := List.replicate n x
theorem repZ_len {n : Nat} {x : Int} : (repZ n x).length = n := List.length_replicate ..
theorem repZ_nth {n i : Nat} {x : Int} (h : i < n) : nth (repZ n x) i = x := by
  unfold repZ nth
  rw [List.getD_eq_getElem?_getD, List.getElem?_replicate, if_pos h]
  rfl
theorem repZ_flat {n : Nat} {x : Int} : (List.replicate n [V.int x]).flatten = (repZ n x).map V.int := by
  unfold repZ
  induction n with
  | zero => rfl
  | succ n ih => rw [List.replicate_succ, List.flatten_cons, ih, List.replicate_succ, List.map_cons] <;> rfl
theorem r_repZ {H : Hp} {Q : VK} {l : Addr} {x k : Int} (n : Nat) (h : H l = some (.lst [.int x])) (e : k = (n : Int)) (hn : n ≤ 1000) (q : ∀ p, H p = none → Q (.ref p) (upd H p (.lst ((repZ n x).map V.int)))) : rRep (.ref l) (.int k) H Q := by
  refine ⟨l, k, _, rfl, rfl, h, by omega, by omega, Nat.le_trans (show 1 * k.toNat ≤ 100000 by omega) (by decide), fun p hp => ?_⟩
  rw [show k.toNat = n by omega, repZ_flat]
  exact q p hp
section
variable {xs : List (List Int)} {n k i : Nat}
theorem colS_step (h : k < xs.length) : colS (xs.take (k + 1)) i = colS (xs.take k) i + nth (xs.getD k []) i := by
  unfold colS
  rw [List.take_succ_eq_append_getElem h, List.map_append, List.sum_append, List.getD_eq_getElem?_getD, List.getElem?_eq_getElem h, List.map_cons, List.map_nil, List.sum_cons, List.sum_nil, Int.add_zero]
  rfl
theorem addC_zero : addC n ([] : List (List Int)) = repZ n 0 := by
  refine nth_ext (by rw [addC_len, repZ_len]) fun i hi => ?_
  rw [addC_len] at hi
  rw [repZ_nth hi]
  unfold addC
  rw [nth_range hi]
  rfl
end
section
variable {P : Program} {w : World} {K : PySem.W.Frag} {mg : Str → Option Value} {base : Heap}
def sp__law_added (K : PySem.W.Frag) : Sp := fun vs H Q _ => ∃ (a : Addr) (ws : List Addr) (xs : List (List Int)) (n : Nat), vs = [.ref a] ∧ H a = some (.lst (ws.map V.ref)) ∧ Rws H ws xs ∧ (1 ≤ xs.length ∧ xs.length ≤ 1000 ∧ n ≤ 1000 ∧ ∀ k, k < xs.length → (xs.getD k []).length = n) ∧
  ∀ p H', H p = none → Fr [] H H' → H' p = some (.lst ((addC n xs).map V.int)) → Q (.ref p) H'
theorem k__law_added (T : Tx fa fn K mg base) : Fk P w K mg base "_law_added" ["lists"] 1 (sp__law_added K) s__law_added "_law_added" := by
  refine T.fk 21 39 (q := "_law_added") (st := s__law_added) sc__law_added (fun _ _ _ _ _ _ us hl => match us, hl with | [_], _ => rfl) (fun vs H Q E h => ?_) (fun cdv A outer s H vs Q E hr h => ?_)
  · obtain ⟨a, ws, xs, n, rfl, _⟩ := h
    rfl
  · obtain ⟨a, ws, xs, n, rfl, ha, rw', ⟨x1, x2, hn, hx⟩, k⟩ := h
    have wl := rw'.len
    have e0 : ws[0]? = some ws[0] := List.getElem?_eq_getElem (by omega)
    have g0 := rw'.at_ 0 _ e0
    have l0 := hx 0 (by omega)
    refine ⟨_, (pss_cons (ps_set (i := 1) sc__law_added.nd rfl (by first | exact Or.inl rfl | exact Or.inr rfl) (pe_op op_rep (pe_lst (pa_cons pe_int pa_nil)) (pe_callB call_len_seq (by rfl) (T.fr 5) (by decide +kernel) (pa_cons (pe_ix ix_list (pv 0) pe_int (fun _ _ => rfl)) pa_nil))))
      (pss_cons (ps_for PassesOwn.never rfl (pi_list (pv 0)) (pg_name (i := 2) sc__law_added.nd rfl (by first | exact Or.inl rfl | exact Or.inr rfl)) (pss_one (ps_setLc (i := 1) (own := [("one", 3), ("two", 4)]) (tt := tYes) (g := (gTup K 2 (gCons (gName 3) (gCons (gName 4) gNil)))) (te := (tOp (rI0 fun i j => .int (i + j)) (tVar 3) (tVar 4))) rfl sc__law_added.nd rfl rfl (sw_true rfl rfl rfl (by decide +kernel)) (pi_zip (by rfl) (T.fr 9) (pa_cons (pv 1) (pa_cons (pv 2) pa_nil))) (blkOk_by (N := ["lists", "found", "numbers", "one", "two"]) (sc := defScope s__law_added) (by decide +kernel)) (fun _ _ _ _ _ => (pg_tup rfl (pgs_cons (pg_name (i := 3) sc__law_added.nd rfl (by first | exact Or.inl rfl | exact Or.inr rfl)) (pgs_cons (pg_name (i := 4) sc__law_added.nd rfl (by first | exact Or.inl rfl | exact Or.inr rfl)) pgs_nil)))) (fun _ _ _ _ _ => pts_nil) (fun _ _ _ _ _ => (pe_op op_add (pv 3) (pv 4))))))
      (pss_one (ps_ret (pv 1))))), ?_⟩
    walk_at "ev0"
    intro c kc
    have z1 := (Z.start0 H).alloc (.lst [.int 0]) kc
    have ha1 := z1.keep ha (by simp)
    have g01 := z1.keep g0 (by simp)
    walk_at "ev"
    refine ⟨_, atI_nat (j := 0) (by rw [List.getElem?_map, e0]; rfl), ?_⟩
    walk_at "ev"
    refine r_repZ n (z1.get (.head _)) (by rw [List.length_map, l0]) hn ?_
    intro p kp
    have z2 := z1.alloc (.lst ((repZ n 0).map V.int)) kp
    walk_at "ev"
    refine for_it (walk_list (xs := ws.map V.ref)) (fun k σ H' => ∃ (fa : Addr) (u2 : Option V), σ = [some (.ref a), some (.ref fa), u2, none, none] ∧ Z H H' [(2, fa, .lst ((addC n (xs.take k)).map V.int))]) ⟨p, none, rfl, by
      rw [List.take_zero, addC_zero]
      exact z2.sub (.cons₂ _ (List.nil_sublist _)) (by simp)⟩ (fun k σ H' _ pv => ?_) (fun m x σ H8 H9 hm pv y => ?_) (fun σ H8 pv => ?_)
    · obtain ⟨fa, u2, rfl, z⟩ := pv
      exact SqL.of (z.keep ha (by simp))
    · obtain ⟨fa, u2, rfl, z⟩ := pv
      obtain ⟨rfl, hx'⟩ := y
      rw [List.length_map, wl] at hm
      have et : ws[m]? = some ws[m] := List.getElem?_eq_getElem (by omega)
      rw [List.getElem?_map, et] at hx'
      obtain rfl := Option.some.inj hx'
      have g := (rw'.mono (z.fr0 (by simp))).at_ m _ et
      have lk := hx m hm
      have gfa := z.get (.head _)
      walk_at "ev"
      refine lc_pure (walk_zip (xs := (addC n (xs.take m)).map V.int) (ys := (xs.getD m []).map V.int) (n := n) (by rw [List.length_map, List.length_map, addC_len, lk, Nat.min_self])) (fun i => .int (colS (xs.take (m + 1)) i)) (by omega) (fun H' e => ⟨e.sql (SqL.of gfa) nin, e.sql (SqL.of g) nin⟩)
        (fun i H' x H'' y => by obtain ⟨T, x1, x2, _, h0, rfl, _⟩ := y; exact (Fr.refl _).new h0) (fun i x H' H'' R hi e y kR => ?_) (fun D1 HA hD1 e1 hD1' => ?_)
      · obtain ⟨T, x1, x2, rfl, h0, rfl, g4, g5⟩ := y
        obtain rfl := nth_at g4
        obtain rfl := nth_at g5
        have e9 : nth (addC n (xs.take m)) i + nth (xs.getD m []) i = colS (xs.take (m + 1)) i := by
          rw [colS_step hm]
          unfold addC
          rw [nth_range hi]
        rw [← e9] at kR
        walk_at "ev"
        refine ⟨rfl, ?_⟩
        walk_at "ev"
        exact kR _ (Fr.refl _)
      have hD1' : HA D1 = some (.lst ((addC n (xs.take (m + 1))).map V.int)) := by
        unfold addC
        rw [List.map_map]
        exact hD1'
      have w1 := z.comp e1 hD1 hD1'
      walk_at "ev"
      exact ⟨D1, _, rfl, w1.sub (.cons₂ _ (List.nil_sublist _)) (by simp)⟩
    · obtain ⟨fa, u2, rfl, z⟩ := pv
      rw [List.length_map, wl, List.take_length] at z
      walk_at "ev"
      have gz := z.get (.head _)
      exact k fa _ (z.fresh (2, fa, _) (.head _) rfl) (z.fr0 (by simp)) gz
end
set_option Elab.async false
set_option linter.all false
set_option maxRecDepth 100000
set_option maxHeartbeats 4000000
set_option exponentiation.threshold 3000
/-- drawn streams: the address of the tuple, of the two lists, and these -/
abbrev StM := Addr × Addr × Addr × List Int × List Int
def flatS : List StM → List (Addr × HO)
  | [] => []
  | q :: M => (q.2.1, .lst (q.2.2.2.1.map V.int)) :: (q.2.2.1, .lst (q.2.2.2.2.map V.int)) :: (q.1, .tup [.ref q.2.1, .ref q.2.2.1]) :: flatS M
abbrev enS (M : List StM) : List En := (flatS M).map fun q => ((2, q.1, q.2) : En)
/-- what is known of a drawn stream of n times -/
def StB (n : Nat) (far : Int) (L U : List Int) : Prop := L.length = n ∧ U.length = n ∧ (∀ i, i < n → nth L i ≤ nth U i ∧ nth U i ≤ nth L i + 3 * far) ∧ nth L (n - 1) = nth U (n - 1)
theorem cut_tail {ns : List Int} (h : 1 ≤ ns.length) : cutV (ns.map V.int) (some (-1)) none = [V.int (nth ns (ns.length - 1))] := by
  rcases List.eq_nil_or_concat ns with rfl | ⟨ms, x, rfl⟩
  · exact absurd h (by decide)
  · rw [List.concat_eq_append]
    have e : HT.sIx ((ms ++ [x]).map V.int).length 0 (some (-1)) = ms.length := by
      show (if (-1 : Int) < 0 then ((-1 : Int) + (((ms ++ [x]).map V.int).length : Nat)).toNat else min (-1 : Int).toNat ((ms ++ [x]).map V.int).length) = _
      rw [if_pos (by decide), List.length_map, List.length_append, List.length_singleton]
      omega
    have e2 : ((ms ++ [x]).map V.int).drop ms.length = [V.int x] := by
      rw [List.map_append, List.drop_left' (by rw [List.length_map])]
      rfl
    have e3 : nth (ms ++ [x]) ((ms ++ [x]).length - 1) = x := nth_app_at (by rw [List.length_append]; rfl)
    unfold cutV
    rw [HT.sIx_none, e, e2, e3, List.take_of_length_le (by simp)]
section
variable {P : Program} {w : World} {K : PySem.W.Frag} {mg : Str → Option Value} {base : Heap}
def sp__law_streams (K : PySem.W.Frag) : Sp := fun vs H Q _ => ∃ (ls j : Addr) (m far : Int) (n : Nat), vs = [.ref j, .int m, .int far] ∧ JarAt ls H j (n + 5000) ∧ (1 ≤ m ∧ m ≤ 40) ∧ (4 ≤ far ∧ far ≤ 2 ^ 100) ∧
  ∀ fd (M : List StM) (tm : Nat) H', Fr [j] H H' → JarAt ls H' j n → New H H' ((fd, .lst (M.reverse.map fun q => .ref q.1)) :: flatS M) → (1 ≤ M.length ∧ M.length ≤ 20 ∧ 1 ≤ tm ∧ (tm : Int) ≤ m) → (∀ q ∈ M, StB tm far q.2.2.2.1 q.2.2.2.2) → Q (.ref fd) H'
theorem k__law_streams (T : Tx fa fn K mg base) : Fk P w K mg base "_law_streams" ["bag", "many", "far"] 4 (sp__law_streams K) s__law_streams "_law_streams" := by
  refine T.fk 20 38 (q := "_law_streams") (st := s__law_streams) sc__law_streams (fun _ _ _ _ _ _ us hl => match us, hl with | [_, _, _], _ => rfl) (fun vs H Q E h => ?_) (fun cdv A outer s H vs Q E hr h => ?_)
  · obtain ⟨ls, j, m, far, n, rfl, _⟩ := h
    rfl
  · obtain ⟨ls, j, m, far, n, rfl, hj, ⟨h1, h2⟩, ⟨f0, f9⟩, k⟩ := h
    have p100 : (2 : Int) ^ 100 * 100 < 2 ^ 1000 := by decide +kernel
    have cm : ∀ x : Int, x.natAbs < 2 ^ 10 → CMulW x far := fun x hx => wide_mul (a := 10) (b := 101) hx (natAbs_lt (Int.lt_of_lt_of_le (show -(2 ^ 101) < (0 : Int) by decide +kernel) (by omega)) (Int.lt_of_le_of_lt f9 (by decide +kernel))) (by decide) (by decide) (by decide)
    refine ⟨_, (pss_cons (ps_par (i := 3) (j := 4) (by rfl) sc__law_streams.nd rfl rfl (by decide) rfl rfl (pa_cons (pe_lst pa_nil) (pa_cons (pe_op op_add pe_int (pe_f (k__law_draw T) hr (pa_cons (pv 0) (pa_cons (pv 1) pa_nil)))) pa_nil)) (by rfl))
      (pss_cons (ps_for PassesOwn.never rfl (pi_range1 (by rfl) (T.fr 24) (pa_cons (pe_op op_add pe_int (pe_f (k__law_draw T) hr (pa_cons (pv 0) (pa_cons (pe_ix ix_list (pe_lst (pa_cons pe_int (pa_cons pe_int (pa_cons pe_int pa_nil)))) (pe_f (k__law_draw T) hr (pa_cons (pv 0) (pa_cons pe_int pa_nil))) (fun _ _ => rfl)) pa_nil)))) pa_nil)) (pg_name (i := 5) sc__law_streams.nd rfl (by first | exact Or.inl rfl | exact Or.inr rfl)) (pss_cons (ps_par3 (i := 6) (j := 7) (l := 8) (by rfl) sc__law_streams.nd rfl rfl rfl (by decide) (by decide) (by decide) rfl rfl rfl (pa_cons (pe_lst pa_nil) (pa_cons (pe_lst pa_nil) (pa_cons pe_int pa_nil))) (by rfl))
      (pss_cons (ps_for PassesOwn.never rfl (pi_range1 (by rfl) (T.fr 24) (pa_cons (pv 4) pa_nil)) (pg_name (i := 9) sc__law_streams.nd rfl (by first | exact Or.inl rfl | exact Or.inr rfl)) (pss_cons (ps_set (i := 8) sc__law_streams.nd rfl (by first | exact Or.inl rfl | exact Or.inr rfl) (pe_op op_sub (pe_op op_add (pv 8) (pe_f (k__law_draw T) hr (pa_cons (pv 0) (pa_cons (pv 2) pa_nil)))) (pe_op op_fdivW (pv 2) pe_int)))
      (pss_cons (ps_expr (pe_bm PySem.F.plainAttrs_list PySem.F.slot_list_append PySem.F.type_list_append mt_append (pv 6) (pa_cons (pe_op op_sub (pv 8) (pe_f (k__law_draw T) hr (pa_cons (pv 0) (pa_cons (pv 2) pa_nil)))) pa_nil)))
      (pss_one (ps_expr (pe_bm PySem.F.plainAttrs_list PySem.F.slot_list_append PySem.F.type_list_append mt_append (pv 7) (pa_cons (pe_op op_add (pe_ix ix_list (pv 6) (pe_un un_neg pe_int) (fun _ _ => rfl)) (pe_f (k__law_draw T) hr (pa_cons (pv 0) (pa_cons (pe_ix ix_list (pe_lst (pa_cons pe_int (pa_cons (pv 2) (pa_cons (pe_op op_mulW pe_int (pv 2)) pa_nil)))) (pe_f (k__law_draw T) hr (pa_cons (pv 0) (pa_cons pe_int pa_nil))) (fun _ _ => rfl)) pa_nil)))) pa_nil)))))))
      (pss_one (ps_expr (pe_bm PySem.F.plainAttrs_list PySem.F.slot_list_append PySem.F.type_list_append mt_append (pv 3) (pa_cons (pe_tup (pa_cons (pv 6) (pa_cons (pe_op op_cat (pe_slice sl_list (pv 7) po_none (po_some (pe_un un_neg pe_int))) (pe_slice sl_list (pv 6) (po_some (pe_un un_neg pe_int)) po_none)) pa_nil))) pa_nil)))))))
      (pss_one (ps_ret (pv 3))))), ?_⟩
    walk_at "ev0"
    intro fd kfd
    have z1 := (ZJ.start hj).alloc (.lst []) kfd
    walk_at "ev"
    refine ⟨ls, j, m, n + 4999, rfl, z1.jar.le (by omega), by omega, by omega, fun v H1 v0 v1 f1 q1 => ?_⟩
    have z2 := z1.dips f1 q1
    walk_at "ev"
    intro t1 kt1
    have z4 := z2.alloc (.lst [.int 4, .int 4, .int 20]) kt1
    walk_at "ev"
    refine ⟨ls, j, 3, n + 4998, rfl, z4.jar.le (by omega), by decide, by decide, fun x4 H4 x0 x1 f4 q4 => ?_⟩
    have z5 := z4.dips f4 q4
    obtain ⟨sz, es, hsz⟩ := three (a := 4) (b := 4) (c := 20) x0 x1
    walk_at "ev"
    refine r_at es ?_
    walk_at "ev"
    refine ⟨ls, j, sz, n + 4997, rfl, z5.jar.le (by omega), by omega, by omega, fun x5 H5 y0 y1 f5 q5 => ?_⟩
    have z6 := (z5.dips f5 q5).sub (E' := [(2, fd, .lst [])]) (.cons _ (List.Sublist.refl _))
    obtain ⟨tm, etm⟩ : ∃ tm : Nat, (tm : Int) = 1 + v := ⟨(1 + v).toNat, by omega⟩
    obtain ⟨N, eN⟩ : ∃ N : Nat, (N : Int) = 1 + x5 := ⟨(1 + x5).toNat, by omega⟩
    clear z1 z2 z4 z5 f1 q1 f4 q4 f5 q5 es x0 x1 kfd kt1
    walk_at "ev"
    refine ⟨by omega, by omega, ?_⟩
    rw [show (1 + x5).toNat = N by omega]
    refine for_it (walk_range (lo := 0) (n := N)) (fun i σ H' => ∃ (u5 u6 u7 u8 u9 : Option V) (M : List StM), σ = [some (.ref j), some (.int m), some (.int far), some (.ref fd), some (.int (1 + v)), u5, u6, u7, u8, u9] ∧
      ZJ ls H H' j (n + 200 * (N - i)) ((2, fd, .lst (M.reverse.map fun q => V.ref q.1)) :: enS M) ∧ M.length = i ∧ ∀ q ∈ M, StB tm far q.2.2.2.1 q.2.2.2.2) ⟨none, none, none, none, none, [], rfl, z6.le (by omega), rfl, fun _ h => nomatch h⟩ (fun _ _ _ _ _ => trivial) (fun i x σ H' H'' hi p y => ?_) (fun σ H' p => ?_)
    · obtain ⟨u5, u6, u7, u8, u9, M, rfl, z, lM, hM⟩ := p
      obtain ⟨rfl, rfl⟩ := y
      walk_at "ev"
      intro l kl
      have y1 := z.alloc (.lst []) kl
      walk_at "ev"
      intro h kh
      have y2 := y1.alloc (.lst []) kh
      have y3 := y2
      walk_at "ev"
      refine ⟨by omega, by omega, ?_⟩
      rw [show (1 + v).toNat = tm by omega]
      refine for_it (walk_range (lo := 0) (n := tm)) (fun c σ H9 => ∃ (hh : Int) (u9 : Option V) (L U : List Int), σ = [some (.ref j), some (.int m), some (.int far), some (.ref fd), some (.int (1 + v)), some (.int (0 + (i : Int))), some (.ref l), some (.ref h), some (.int hh), u9] ∧
        ZJ ls H H9 j (n + 200 * (N - (i + 1)) + 4 * (tm - c)) ((2, h, .lst (U.map V.int)) :: (2, l, .lst (L.map V.int)) :: (2, fd, .lst (M.reverse.map fun q => V.ref q.1)) :: enS M) ∧ (L.length = c ∧ U.length = c ∧ ∀ i, i < c → nth L i ≤ nth U i ∧ nth U i ≤ nth L i + 3 * far)) ⟨0, u9, [], [], rfl, y3.le (by omega), rfl, rfl, fun i hi => absurd hi (Nat.not_lt_zero i)⟩ (fun _ _ _ _ _ => trivial) (fun c x σ H9 H10 hc p y => ?_) (fun σ H9 p => ?_)
      · obtain ⟨hh, u9, L, U, rfl, z, lL, lU, hp⟩ := p
        obtain ⟨rfl, rfl⟩ := y
        walk_at "ev"
        refine ⟨ls, j, far, n + 200 * (N - (i + 1)) + 4 * (tm - c) - 1, rfl, z.jar.le (by omega), by omega, by omega, fun v1 G1 a1 b1 f1 q1 => ?_⟩
        have w1 := z.dips f1 q1
        walk_at "ev"
        refine r_I (wdiv (by decide) (by decide)) ?_
        walk_at "ev"
        refine ⟨ls, j, far, n + 200 * (N - (i + 1)) + 4 * (tm - c) - 2, rfl, w1.jar.le (by omega), by omega, by omega, fun v2 G2 a2 b2 f2 q2 => ?_⟩
        have w2 := w1.dips f2 q2
        walk_at "ev"
        have w3 := w2.set 1 (.lst (L.map V.int ++ [.int (hh + v1 - far / 4 - v2)])) rfl
        have gl := w3.get (.tail _ (.head _))
        walk_at "ev"
        refine ⟨_, atI_last _ _, ?_⟩
        walk_at "ev"
        refine r_I (cm 3 (by decide)) ?_
        walk_at "ev"
        intro t2 kt2
        have w4 := w3.alloc (.lst [.int 2, .int far, .int (3 * far)]) kt2
        walk_at "ev"
        refine ⟨ls, j, 3, n + 200 * (N - (i + 1)) + 4 * (tm - c) - 3, rfl, w4.jar.le (by omega), by decide, by decide, fun x7 G5 a5 b5 f5 q5 => ?_⟩
        have w5 := w4.dips f5 q5
        obtain ⟨wd, ew, hw⟩ := three (a := 2) (b := far) (c := 3 * far) a5 b5
        walk_at "ev"
        refine r_at ew ?_
        walk_at "ev"
        refine ⟨ls, j, wd, n + 200 * (N - (i + 1)) + 4 * (tm - c) - 4, rfl, w5.jar.le (by omega), by omega, by omega, fun v3 G6 a6 b6 f6 q6 => ?_⟩
        have w6 := w5.dips f6 q6
        have gh := w6.get (.tail _ (.head _))
        walk_at "ev"
        have w7 := (w6.set 1 (.lst (U.map V.int ++ [.int (hh + v1 - far / 4 - v2 + v3)])) rfl).sub (.cons _ (List.Sublist.refl _))
        refine ⟨hh + v1 - far / 4, _, L ++ [hh + v1 - far / 4 - v2], U ++ [hh + v1 - far / 4 - v2 + v3], rfl, ?_, by rw [List.length_append, lL]; rfl, by rw [List.length_append, lU]; rfl, fun x hx => ?_⟩
        · simp only [List.map_append, List.map_cons, List.map_nil]
          exact w7.le (by omega)
        · rcases Nat.lt_or_ge x c with hxi | hxi
          · rw [nth_app_lt (by omega), nth_app_lt (by omega)]
            exact hp x hxi
          · have e : x = c := by omega
            subst e
            rw [nth_app_at lL.symm, nth_app_at lU.symm]
            omega
      · obtain ⟨hh, u9, L, U, rfl, z, lL, lU, hp⟩ := p
        have gh := z.get (.head _)
        have gl := z.get (.tail _ (.head _))
        have t1 : 1 ≤ tm := by omega
        walk_at "ev"
        rw [cut_last, ← List.map_dropLast]
        intro s1 k1
        have y4 := z.alloc (.lst (U.dropLast.map V.int)) k1
        have gl4 := y4.get (.tail _ (.tail _ (.head _)))
        walk_at "ev"
        rw [cut_tail (by omega)]
        intro s2 k2
        have y5 := y4.alloc (.lst ([nth L (L.length - 1)].map V.int)) k2
        have g1 := y5.get (.tail _ (.head _))
        have g2 := y5.get (.head _)
        walk_at "ev"
        intro s3 k3
        have y6 := y5.alloc (.lst ((lastL U (nth L (tm - 1))).map V.int)) k3
        have e7 : List.map V.int U.dropLast ++ List.map V.int [nth L (L.length - 1)] = (lastL U (nth L (tm - 1))).map V.int := by
          unfold lastL
          rw [← List.map_append, lL]
        rw [e7]
        walk_at "ev"
        intro t kt
        have y7 := y6.alloc (.tup [.ref l, .ref s3]) kt
        have gfd := y7.get (.tail _ (.tail _ (.tail _ (.tail _ (.tail _ (.tail _ (.head _)))))))
        have sz : (M.reverse.map fun q => V.ref q.1).length < sizeLine := smalllt' (by rw [List.length_map, List.length_reverse, lM]; omega)
        walk_at "ev"
        have y8 := (y7.set 6 (.lst ((M.reverse.map fun q => V.ref q.1) ++ [.ref t])) rfl).sub (E' := (2, t, .tup [.ref l, .ref s3]) :: (2, s3, .lst ((lastL U (nth L (tm - 1))).map V.int)) :: (2, l, .lst (L.map V.int)) :: (2, fd, .lst ((M.reverse.map fun q => V.ref q.1) ++ [.ref t])) :: enS M)
          (.cons₂ _ (.cons₂ _ (.cons _ (.cons _ (.cons _ (.cons₂ _ (.cons₂ _ (List.Sublist.refl _))))))))
        refine ⟨_, _, _, _, _, (t, l, s3, L, lastL U (nth L (tm - 1))) :: M, rfl, ?_, by rw [List.length_cons, lM], fun q hq => ?_⟩
        · rw [List.reverse_cons, List.map_append]
          exact (y8.perm (pm4 _ _ _ _ _)).le (by omega)
        · rcases List.mem_cons.mp hq with rfl | hq
          · refine ⟨lL, by rw [lastL_len (by omega)]; exact lU, fun x hx => ?_, ?_⟩
            · show nth L x ≤ nth (lastL U (nth L (tm - 1))) x ∧ nth (lastL U (nth L (tm - 1))) x ≤ nth L x + 3 * far
              rcases Nat.lt_or_ge (x + 1) tm with c | c
              · rw [lastL_nth (by omega)]
                exact hp x hx
              · have ex : x = U.length - 1 := by omega
                rw [ex, lastL_end, lU]
                omega
            · show nth L (tm - 1) = nth (lastL U (nth L (tm - 1))) (tm - 1)
              have e8 := lastL_end (L := U) (x := nth L (tm - 1))
              rw [lU] at e8
              exact e8.symm
          · exact hM q hq
    · obtain ⟨u5, u6, u7, u8, u9, M, rfl, z, lM, hM⟩ := p
      walk_at "ev"
      refine k fd M tm _ z.fr (z.jar.le (by omega)) (z.made (N := (fd, .lst (M.reverse.map fun q => .ref q.1)) :: flatS M) (List.Sublist.refl _)) ⟨by omega, by omega, by omega, by omega⟩ hM
end
set_option Elab.async false
set_option linter.all false
set_option maxRecDepth 100000
set_option maxHeartbeats 4000000
set_option exponentiation.threshold 3000
/-- draws by the pairs of two lists -/
theorem lc_drawZ {K : PySem.W.Frag} {a b : Addr} {xs ys : List Int} (p : Nat → Int → Prop) {c m : Nat} {g : TG} {te : TE} {vs : List Nat} {σ : L2.St} {Q : VK} {ls : Addr} {H0 H1 : Hp} {j : Addr} {E : List En} (ha : ∀ (k : Nat) (H' : Hp) (E' : List En), ZJ ls H0 H' j k (E' ++ E) → SqL K H' a (xs.map V.int) ∧ SqL K H' b (ys.map V.int)) (hn : xs.length ≤ 10000) (hl : ys.length = xs.length) (z : ZJ ls H0 H1 j (m + c * xs.length) E)
    (he : ∀ (i : Nat) (H' : Hp) (T D : Addr) (ns : List Int) (R : VK), i < xs.length → H' T = some (.tup [.int (nth xs i), .int (nth ys i)]) → ZJ ls H0 H' j (m + c * (xs.length - i)) ((2, D, .lst (ns.map V.int)) :: E) → (∀ (x : Int) (G : Hp), p i x → ZJ ls H0 G j (m + c * (xs.length - (i + 1))) ((2, D, .lst (ns.map V.int)) :: E) → R (.int x) G) →
      g (.ref T) (wipe σ vs) H' fun σ2 H2 => wipe σ2 vs = wipe σ vs ∧ te σ2 H2 R)
    (hd : ∀ (D : Addr) (ns : List Int) (H' : Hp), ns.length = xs.length → (∀ i, i < xs.length → p i (nth ns i)) → ZJ ls H0 H' j m ((2, D, .lst (ns.map V.int)) :: E) → Q (.ref D) H') : LcJ g tYes te vs σ Q (Itz K a b) H1 := by
  intro D hD
  refine lc_it (walk_zip (xs := xs.map V.int) (ys := ys.map V.int) (n := xs.length) (by rw [List.length_map, List.length_map, hl, Nat.min_self])) (fun i H' => i ≤ xs.length ∧ ∃ ns : List Int, ns.length = i ∧ (∀ k, k < i → p k (nth ns k)) ∧ ZJ ls H0 H' j (m + c * (xs.length - i)) ((2, D, .lst (ns.map V.int)) :: E)) ⟨Nat.zero_le _, [], rfl, (fun k hk => absurd hk (Nat.not_lt_zero k)), z.alloc (.lst []) hD⟩ (fun i H' _ ⟨_, ns, _, _, z⟩ => ha _ H' [(2, D, .lst (ns.map V.int))] z) (fun i x H' H'' hi p0 y => ?_) (fun H' p0 => ?_)
  · obtain ⟨p1, ns, p2, pp, p3⟩ := p0
    obtain ⟨T, x1, x2, rfl, h0, rfl, g1, g2⟩ := y
    obtain rfl := nth_at g1
    obtain rfl := nth_at g2
    have p4 := (p3.alloc (.tup [.int (nth xs i), .int (nth ys i)]) h0).sub (.cons _ (List.Sublist.refl _))
    refine he i _ T D ns (fun y H4 => ∃ acc, H4 D = some (.lst acc) ∧ acc.length < sizeLine ∧ (i + 1 ≤ xs.length ∧ ∃ ns : List Int, ns.length = i + 1 ∧ (∀ k, k < i + 1 → p k (nth ns k)) ∧ ZJ ls H0 (upd H4 D (.lst (acc ++ [y]))) j (m + c * (xs.length - (i + 1))) ((2, D, .lst (ns.map V.int)) :: E))) hi upd_same p4 fun x G px q => ?_
    refine ⟨ns.map V.int, q.get (.head _), ?_, hi, ns ++ [x], by rw [List.length_append, p2] <;> rfl, fun k hk => ?_, ?_⟩
    · rw [List.length_map, p2]
      exact Nat.lt_of_lt_of_le (show i < 100001 by omega) (by decide)
    · by_cases c : k < i
      · rw [nth_app_lt (by omega)]
        exact pp k c
      · have e : k = i := by omega
        subst e
        rw [nth_app_at p2.symm]
        exact px
    · rw [List.map_append]
      exact q.set 0 _ rfl
  · obtain ⟨p1, ns, p2, pp, p3⟩ := p0
    exact hd D ns H' p2 pp (by
      rw [Nat.sub_self] at p3
      exact p3)
/-- the sums of the steps are the sums -/
theorem heights_diffs {ns : List Int} : heights (diffs (0 :: ns)) = ns := by
  have dl : (diffs (0 :: ns)).length = ns.length := by rw [diffs_len, List.length_cons, Nat.add_sub_cancel]
  have g : ∀ i, i ≤ ns.length → ((diffs (0 :: ns)).take i).sum = nth (0 :: ns) i := by
    intro i
    induction i with
    | zero => intro _; rfl
    | succ i ih =>
      intro hi
      rw [take_sum (by omega), ih (by omega)]
      unfold diffs
      rw [nth_range (by rw [List.length_cons]; omega)]
      omega
  refine nth_ext (by rw [hsTo_len, dl]) fun i hi => ?_
  rw [hsTo_len, dl] at hi
  rw [nth_hsTo (by omega), g (i + 1) (by omega)]
  rfl
section
variable {P : Program} {w : World} {K : PySem.W.Frag} {mg : Str → Option Value} {base : Heap}
def sp__law_row (K : PySem.W.Frag) : Sp := fun vs H Q _ => ∃ (ls j a b : Addr) (xs ys : List Int) (n : Nat), vs = [.ref j, .ref a, .ref b] ∧ JarAt ls H j (n + 500) ∧ (H a = some (.lst (xs.map V.int)) ∧ a ≠ j) ∧ (H b = some (.lst (ys.map V.int)) ∧ b ≠ j) ∧ (1 ≤ xs.length ∧ xs.length ≤ 200 ∧ ys.length = xs.length ∧ ∀ i, i < xs.length → nth xs i ≤ nth ys i ∧ nth ys i ≤ nth xs i + 2 ^ 900) ∧
  ∀ p (ns : List Int) H', H p = none → Fr [j] H H' → JarAt ls H' j n → H' p = some (.lst (ns.map V.int)) → (ns.length = xs.length ∧ ∀ i, i < xs.length → nth xs i ≤ nth (heights ns) i ∧ nth (heights ns) i ≤ nth ys i) → Q (.ref p) H'
theorem k__law_row (T : Tx fa fn K mg base) : Fk P w K mg base "_law_row" ["bag", "lows", "highs"] 4 (sp__law_row K) s__law_row "_law_row" := by
  refine T.fk 22 40 (q := "_law_row") (st := s__law_row) sc__law_row (fun _ _ _ _ _ _ us hl => match us, hl with | [_, _, _], _ => rfl) (fun vs H Q E h => ?_) (fun cdv A outer s H vs Q E hr h => ?_)
  · obtain ⟨ls, j, a, b, xs, ys, n, rfl, _⟩ := h
    rfl
  · obtain ⟨ls, j, a, b, xs, ys, n, rfl, hj, ⟨ha, aj⟩, ⟨hb, bj⟩, ⟨x1, x2, yl, hxy⟩, k⟩ := h
    have p9 : (2 : Int) ^ 900 + 2 < 2 ^ 1000 := by decide +kernel
    refine ⟨_, (pss_cons (ps_setLc (i := 3) (own := [("low", 4), ("high", 5)]) (tt := tYes) (g := (gTup K 2 (gCons (gName 4) (gCons (gName 5) gNil)))) (te := (tOp (rI0 fun i j => .int (i + j)) (tVar 4) (tOp (rIxL K) (tLst (tCons (tC (.int 0)) (tCons (tOp (rI0 fun i j => .int (i - j)) (tVar 5) (tVar 4)) (tCons (tCall (sp__law_draw K) [] E0 (tCons (tVar 0) (tCons (tOp (rI0 fun i j => .int (i + j)) (tOp (rI0 fun i j => .int (i - j)) (tVar 5) (tVar 4)) (tC (.int 1))) tNil))) tNil)))) (tCall (sp__law_draw K) [] E0 (tCons (tVar 0) (tCons (tC (.int 3)) tNil)))))) rfl sc__law_row.nd rfl rfl (sw_true rfl rfl rfl (by decide +kernel)) (pi_zip (by rfl) (T.fr 9) (pa_cons (pv 1) (pa_cons (pv 2) pa_nil))) (blkOk_by (N := ["bag", "lows", "highs", "sums", "low", "high", "one", "two"]) (sc := defScope s__law_row) (by decide +kernel)) (fun _ _ _ _ _ => (pg_tup rfl (pgs_cons (pg_name (i := 4) sc__law_row.nd rfl (by first | exact Or.inl rfl | exact Or.inr rfl)) (pgs_cons (pg_name (i := 5) sc__law_row.nd rfl (by first | exact Or.inl rfl | exact Or.inr rfl)) pgs_nil)))) (fun _ _ _ _ _ => pts_nil) (fun _ _ _ _ _ => (pe_op op_add (pv 4) (pe_ix ix_list (pe_lst (pa_cons pe_int (pa_cons (pe_op op_sub (pv 5) (pv 4)) (pa_cons (pe_f (k__law_draw T) hr (pa_cons (pv 0) (pa_cons (pe_op op_add (pe_op op_sub (pv 5) (pv 4)) pe_int) pa_nil))) pa_nil)))) (pe_f (k__law_draw T) hr (pa_cons (pv 0) (pa_cons pe_int pa_nil))) (fun _ _ => rfl)))))
      (pss_one (ps_ret (pe_lc (own := [("one", 6), ("two", 7)]) (tt := tYes) (g := (gTup K 2 (gCons (gName 6) (gCons (gName 7) gNil)))) (te := (tOp (rI0 fun i j => .int (i - j)) (tVar 7) (tVar 6))) rfl sc__law_row.nd (pi_zip (by rfl) (T.fr 9) (pa_cons (pe_op op_cat (pe_lst (pa_cons pe_int pa_nil)) (pv 3)) (pa_cons (pv 3) pa_nil))) (blkOk_by (N := ["bag", "lows", "highs", "sums", "low", "high", "one", "two"]) (sc := defScope s__law_row) (by decide +kernel)) (fun _ _ _ _ _ => (pg_tup rfl (pgs_cons (pg_name (i := 6) sc__law_row.nd rfl (by first | exact Or.inl rfl | exact Or.inr rfl)) (pgs_cons (pg_name (i := 7) sc__law_row.nd rfl (by first | exact Or.inl rfl | exact Or.inr rfl)) pgs_nil)))) (fun _ _ _ _ _ => pts_nil) (fun _ _ _ _ _ => (pe_op op_sub (pv 7) (pv 6))))))), ?_⟩
    walk_at "ev0"
    refine lc_drawZ (xs := xs) (ys := ys) (fun i x => nth xs i ≤ x ∧ x ≤ nth ys i) (c := 2) (m := n) (E := []) (fun k H' E' z => ⟨SqL.of (z.keep ha aj), SqL.of (z.keep hb bj)⟩) (by omega) yl ((ZJ.start hj).le (by omega)) (fun i H' T D ns R hi gT z kR => ?_) (fun D ns H' nl hp z => ?_)
    · have hb1 := hxy i hi
      walk_at "ev"
      refine ⟨rfl, ?_⟩
      walk_at "ev"
      refine ⟨ls, j, nth ys i - nth xs i + 1, n + 2 * (xs.length - i) - 1, rfl, z.jar.le (by omega), by omega, by omega, fun v G1 v0 v1 f1 q1 => ?_⟩
      have z1 := z.dips f1 q1
      walk_at "ev"
      intro t kt
      have z2 := z1.alloc (.lst [.int 0, .int (nth ys i - nth xs i), .int v]) kt
      walk_at "ev"
      refine ⟨ls, j, 3, n + 2 * (xs.length - i) - 2, rfl, z2.jar.le (by omega), by decide, by decide, fun v2 G2 a2 b2 f2 q2 => ?_⟩
      have z3 := z2.dips f2 q2
      obtain ⟨it, eit, hit⟩ := three (a := 0) (b := nth ys i - nth xs i) (c := v) a2 b2
      walk_at "ev"
      refine r_at eit ?_
      walk_at "ev"
      exact kR _ _ ⟨by omega, by omega⟩ ((z3.sub (.cons _ (List.Sublist.refl _))).le (by omega))
    have gD := z.get (.head _)
    walk_at "ev"
    intro c kc
    have z1 := z.alloc (.lst [.int 0]) kc
    have gD1 := z1.get (.tail _ (.head _))
    walk_at "ev"
    intro q kq
    have z2 := z1.alloc (.lst ((0 :: ns).map V.int)) kq
    have gD2 := z2.get (.tail _ (.tail _ (.head _)))
    have gq := z2.get (.head _)
    clear gD gD1
    walk_at "ev"
    refine lc_pure (walk_zip (xs := (0 :: ns).map V.int) (ys := ns.map V.int) (n := ns.length) (by simp)) (fun i => .int (nth (diffs (0 :: ns)) i)) (by omega) (fun H' e => ⟨e.sql (SqL.of gq) nin, e.sql (SqL.of gD2) nin⟩)
      (fun i H' x H'' y => by obtain ⟨T, x1, x2, _, h0, rfl, _⟩ := y; exact (Fr.refl _).new h0) (fun i x H' H'' R hi e y kR => ?_) (fun D1 HA hD1 e1 hD1' => ?_)
    · obtain ⟨T, x1, x2, rfl, h0, rfl, g4, g5⟩ := y
      obtain rfl := nth_at g4
      obtain rfl := nth_at g5
      have e9 : nth ns i - nth (0 :: ns) i = nth (diffs (0 :: ns)) i := by
        unfold diffs
        rw [nth_range (by rw [List.length_cons]; omega)]
        rfl
      rw [← e9] at kR
      walk_at "ev"
      refine ⟨rfl, ?_⟩
      walk_at "ev"
      exact kR _ (Fr.refl _)
    have dl : (diffs (0 :: ns)).length = ns.length := by rw [diffs_len, List.length_cons, Nat.add_sub_cancel]
    have hD1' : HA D1 = some (.lst ((diffs (0 :: ns)).map V.int)) := by
      rw [← dl, show (fun i => V.int (nth (diffs (0 :: ns)) i)) = V.int ∘ nth (diffs (0 :: ns)) from rfl, ← List.map_map, range_nth] at hD1'
      exact hD1'
    have z3 := z2.comp e1 hD1 hD1'
    exact k D1 (diffs (0 :: ns)) HA (z3.fresh (2, D1, _) (.head _)) z3.fr z3.jar hD1' ⟨by omega, fun i hi => by rw [heights_diffs]; exact hp i hi⟩
end
set_option Elab.async false
set_option linter.all false
set_option maxRecDepth 100000
set_option maxHeartbeats 4000000
set_option exponentiation.threshold 3000
section
variable {ss : List (List Int × List Int)} {ns : List Int} {n k i : Nat}
theorem sum_sub {α : Type} (l : List α) (f g : α → Int) : (l.map fun x => f x - g x).sum = (l.map f).sum - (l.map g).sum := by
  induction l with
  | nil => rfl
  | cons a l ih =>
    simp only [List.map_cons, List.sum_cons, ih]
    omega
theorem shares_sum (ok : SsOk n ss) (ln : ns.length = n) (bnd : ∀ i, i < n → lowA ss 0 i ≤ nth (heights ns) i ∧ nth (heights ns) i ≤ highA ss 0 i) : addC n ((List.range ss.length).map (shL ss (heights ns) n)) = ns := by
  have col : ∀ i, i ≤ n → ((List.range ss.length).map fun k => nth (0 :: sumL ss (heights ns) n k) i).sum = (ns.take i).sum := fun i hi => by
    cases i with
    | zero =>
      show ((List.range ss.length).map fun _ => (0 : Int)).sum = 0
      generalize List.range ss.length = l
      induction l with
      | nil => rfl
      | cons _ _ ih =>
        rw [List.map_cons, List.sum_cons, ih]
        rfl
    | succ i =>
      have e : ((List.range ss.length).map fun k => nth (0 :: sumL ss (heights ns) n k) (i + 1)) = (List.range ss.length).map fun k => sumA ss (heights ns) k i := List.map_congr_left fun k _ => by
        show nth (sumL ss (heights ns) n k) i = _
        unfold sumL
        rw [nth_range (by omega)]
      rw [e, sumA_all, leftA_end ok (by omega) (bnd i (by omega)), nth_hsTo (by omega)]
      omega
  refine nth_ext (by rw [addC_len, ln]) fun i hi => ?_
  rw [addC_len] at hi
  unfold addC
  rw [nth_range hi]
  unfold colS
  rw [List.map_map]
  have e : ((List.range ss.length).map ((fun r => nth r i) ∘ shL ss (heights ns) n)) = (List.range ss.length).map fun k => nth (0 :: sumL ss (heights ns) n k) (i + 1) - nth (0 :: sumL ss (heights ns) n k) i := List.map_congr_left fun k _ => by
    show nth (diffs (0 :: sumL ss (heights ns) n k)) i = _
    unfold diffs
    rw [nth_range (by rw [List.length_cons, sumL_len]; omega)]
  rw [e, sum_sub, col (i + 1) (by omega), col i (by omega), take_sum (by omega)]
  omega
theorem shL_len : (shL ss ns n k).length = n := by
  unfold shL
  rw [diffs_len, List.length_cons, sumL_len, Nat.add_sub_cancel]
theorem others_sum : addC n (repZ n 0 :: (ss.drop k).map (·.1)) = lowL ss n k := by
  unfold addC lowL
  refine List.map_congr_left fun i hi => ?_
  unfold colS lowA
  rw [List.map_cons, List.sum_cons, repZ_nth (List.mem_range.mp hi), List.map_map, Int.zero_add]
  rfl
end
def add7 (q : Addr × List Int) : Addr × List Int := (q.1, q.2 ++ [7])
theorem set_mid {α : Type} (A B : List α) (x y : α) : (A ++ x :: B).set A.length y = A ++ y :: B := by
  induction A with
  | nil => rfl
  | cons a A ih =>
    show a :: (A ++ x :: B).set A.length y = _
    rw [ih]
    rfl
theorem llat_of {H : Hp} : ∀ {M : List (Addr × List Int)}, (∀ q ∈ M, H q.1 = some (.lst (q.2.map V.int))) → LLAt H (M.map fun q => V.ref q.1) (M.map Prod.snd)
  | [], _ => .nil
  | q :: M, h => .cons (h q List.mem_cons_self) (llat_of fun q hq => h q (List.mem_cons_of_mem _ hq))
theorem depthA_ints : ∀ ns : List Int, PyData.depthAll (ns.map PyData.int) = 0
  | [] => rfl
  | n :: r => by
    rw [List.map_cons, PyData.depthAll, depthA_ints r]
    rfl
theorem depth_ll : ∀ r : List (List Int), PyData.depthAll (r.map fun ns => .list (ns.map PyData.int)) ≤ 1
  | [] => Nat.zero_le _
  | n :: r => by
    have := depth_ll r
    rw [List.map_cons, PyData.depthAll, PyData.depth, depthA_ints]
    omega
theorem shaped_ll (r : List (List Int)) : SeqAt.shaped (llD r) = true := by
  have := depth_ll r
  unfold SeqAt.shaped
  rw [PyData.canLay0, canLay_ll, PyData.depth, decide_eq_true (by omega)]
  rfl
theorem r_neLL {K : PySem.W.Frag} {H : Hp} {Q : VK} {a b : Addr} {vs us : List V} {xs : List (List Int)} (ha : H a = some (.lst vs)) (hb : H b = some (.lst us)) (hx : LLAt H vs xs) (hy : LLAt H us xs) (q : Q (.bl false) H) : rNeD K (.ref a) (.ref b) H Q := by
  refine ⟨llD xs, llD xs, .lst (SqL.of ha) hx.dp, .lst (SqL.of hb) hy.dp, shaped_ll _, shaped_ll _, ?_⟩
  rw [SeqAt.eqv_refl _ (SeqAt.canLay_of_shaped (shaped_ll _))]
  exact q
theorem cut_from {xs : List V} {k : Nat} (h : k ≤ xs.length) : cutV xs (some (k : Int)) none = xs.drop k := by
  unfold cutV
  rw [HT.sIx_none, HT.sIx_nat, Nat.min_eq_left h, List.take_of_length_le (by rw [List.length_drop]; exact Nat.le_refl _)]
theorem Rws.cons {H : Hp} {ws : List Addr} {xs : List (List Int)} {w0 : Addr} {x0 : List Int} (h : Rws H ws xs) (h0 : H w0 = some (.lst (x0.map V.int))) : Rws H (w0 :: ws) (x0 :: xs) := by
  refine ⟨by rw [List.length_cons, List.length_cons, h.len], fun k a e => ?_⟩
  cases k with
  | zero =>
    obtain rfl := Option.some.inj e
    exact h0
  | succ k => exact h.at_ k a e
theorem Sts.lowsFrom {H : Hp} {ts : List Addr} {ps : List (Addr × Addr)} {ss : List (List Int × List Int)} (st : Sts H ts ps ss) (m : Nat) : Rws H ((List.range (ss.length - m)).map fun k => (ps.getD (m + k) (0, 0)).1) ((ss.drop m).map (·.1)) := by
  refine ⟨by simp, fun k a e => ?_⟩
  by_cases h : k < ss.length - m
  · rw [List.getElem?_map, List.getElem?_range h] at e
    obtain rfl := Option.some.inj e
    have e2 : ((ss.drop m).map (·.1)).getD k [] = (ss.getD (m + k) ([], [])).1 := by
      rw [List.getD_eq_getElem?_getD, List.getD_eq_getElem?_getD, List.getElem?_map, List.getElem?_drop, List.getElem?_eq_getElem (show m + k < ss.length by omega)]
      rfl
    rw [e2]
    exact st.low (m + k) (by omega)
  · rw [List.getElem?_eq_none (by simp; omega)] at e
    cases e
theorem enM_at {H0 H : Hp} {D : Addr} {o : HO} {M : List (Addr × List Int)} (z : Z H0 H ((2, D, o) :: enM M)) : ∀ q ∈ M, H q.1 = some (.lst (q.2.map V.int)) := fun q hq => z.at_ (2, q.1, .lst (q.2.map V.int)) (List.mem_cons_of_mem _ (List.mem_map.mpr ⟨q, hq, rfl⟩))
theorem th1 {M : List (Addr × List Int)} {D : Addr} {o : HO} : ∀ q ∈ ((2, D, o) : En) :: enM M, q.1 ≠ 1 := fun q hq => (List.mem_cons.mp hq).elim (fun e => by rw [e]; exact (by decide : (2 : Nat) ≠ 1)) (enM_two q)
theorem enM_set {M : List (Addr × List Int)} {i : Nat} {q : Addr × List Int} : (enM M).set i (2, q.1, .lst (q.2.map V.int)) = enM (M.set i q) := by
  unfold enM
  rw [List.map_set]
/-- lists as they were made -/
theorem rws_of {H : Hp} {M : List (Addr × List Int)} {xs : List (List Int)} (e : M.map Prod.snd = xs.reverse) (h : ∀ q ∈ enM M, H q.2.1 = some q.2.2) : Rws H (M.reverse.map (·.1)) xs := by
  have e1 : M.reverse.map Prod.snd = xs := by rw [List.map_reverse, e, List.reverse_reverse]
  refine ⟨by rw [← e1, List.length_map, List.length_map], fun k a ek => ?_⟩
  rw [List.getElem?_map] at ek
  cases hq : M.reverse[k]? with
  | none => rw [hq] at ek; cases ek
  | some q =>
    rw [hq] at ek
    obtain rfl := Option.some.inj ek
    have m := List.mem_reverse.mp (List.mem_of_getElem? hq)
    have g := h _ (List.mem_map.mpr ⟨q, m, rfl⟩)
    have ex : xs.getD k [] = q.2 := by rw [← e1, List.getD_eq_getElem?_getD, List.getElem?_map, hq]; rfl
    rw [ex]
    exact g
section
variable {P : Program} {w : World} {K : PySem.W.Frag} {mg : Str → Option Value} {base : Heap}
def sp__law_shares_right (K : PySem.W.Frag) : Sp := fun vs H Q _ => ∃ (a r : Addr) (ts : List Addr) (ps : List (Addr × Addr)) (ss : List (List Int × List Int)) (n : Nat) (ns : List Int), vs = [.ref a, .ref r] ∧ H a = some (.lst (ts.map V.ref)) ∧ Sts H ts ps ss ∧ SsOk n ss ∧
  H r = some (.lst (ns.map V.int)) ∧ (ns.length = n ∧ ∀ i, i < n → lowA ss 0 i ≤ nth (heights ns) i ∧ nth (heights ns) i ≤ highA ss 0 i) ∧ ∀ H', Fr [] H H' → Q (.bl true) H'
theorem k__law_shares_right (T : Tx fa fn K mg base) : Fk P w K mg base "_law_shares_right" ["streams_here", "item"] 6 (sp__law_shares_right K) s__law_shares_right "_law_shares_right" := by
  refine T.fk 23 41 (q := "_law_shares_right") (st := s__law_shares_right) sc__law_shares_right (fun _ _ _ _ _ _ us hl => match us, hl with | [_, _], _ => rfl) (fun vs H Q E h => ?_) (fun cdv A outer s H vs Q E hr h => ?_)
  · obtain ⟨a, r, ts, ps, ss, n, ns, rfl, _⟩ := h
    rfl
  · obtain ⟨a, r, ts, ps, ss, n, ns, rfl, ha, st, ok, hr', ⟨ln, bnd⟩, k⟩ := h
    have n1 := ok.n1
    have n2 := ok.n200
    have o1 := ok.one
    have o2 := ok.most
    have lt := st.lt
    refine ⟨_, (pss_cons (ps_set (i := 2) sc__law_shares_right.nd rfl (by first | exact Or.inl rfl | exact Or.inr rfl) (pe_f (k_shares T) hr (pa_cons (pv 0) (pa_cons (pv 1) pa_nil))))
      (pss_cons (ps_if (PW.pt (pw_or (pt_cmpR op_ne (pe_callB call_len_seq (by rfl) (T.fr 5) (by decide +kernel) (pa_cons (pv 2) pa_nil)) (pe_callB call_len_seq (by rfl) (T.fr 5) (by decide +kernel) (pa_cons (pv 0) pa_nil)) (nomark _)) (pw_or1 (pt_cmpR (op_neD hr.units) (pe_f (k__law_added T) hr (pa_cons (pv 2) pa_nil)) (pv 1) (nomark _))))) (pss_one (ps_ret pe_bl)) pss_nil)
      (pss_cons (ps_for PassesOwn.never rfl (pi_list (pv 2)) (pg_name (i := 3) sc__law_shares_right.nd rfl (by first | exact Or.inl rfl | exact Or.inr rfl)) (pss_one (ps_expr (pe_bm PySem.F.plainAttrs_list PySem.F.slot_list_append PySem.F.type_list_append mt_append (pv 3) (pa_cons pe_int pa_nil)))))
      (pss_cons (ps_if (pt_cmpR (op_neD hr.units) (pe_f (k_shares T) hr (pa_cons (pv 0) (pa_cons (pv 1) pa_nil))) (pe_lc (own := [("one", 3)]) (tt := tYes) (te := (tSl (rSlL K) (tVar 3) tNoPart (tPart (tUn (rU fun i => .int (-i)) (tC (.int 1)))))) rfl sc__law_shares_right.nd (pi_list (pv 2)) (blkOk_by (N := ["streams_here", "item", "told", "one", "rest", "k", "low", "high", "others", "sums", "due", "bound", "here", "less"]) (sc := defScope s__law_shares_right) (by decide +kernel)) (fun _ _ _ _ _ => (pg_name (i := 3) sc__law_shares_right.nd rfl (by first | exact Or.inl rfl | exact Or.inr rfl))) (fun _ _ _ _ _ => pts_nil) (fun _ _ _ _ _ => (pe_slice sl_list (pv 3) po_none (po_some (pe_un un_neg pe_int))))) (nomark _)) (pss_one (ps_ret pe_bl)) pss_nil)
      (pss_cons (ps_set (i := 2) sc__law_shares_right.nd rfl (by first | exact Or.inl rfl | exact Or.inr rfl) (pe_f (k_shares T) hr (pa_cons (pv 0) (pa_cons (pv 1) pa_nil))))
      (pss_cons (ps_set (i := 4) sc__law_shares_right.nd rfl (by first | exact Or.inl rfl | exact Or.inr rfl) (pe_f (k__law_sums T) hr (pa_cons (pv 1) pa_nil)))
      (pss_cons (ps_for PassesOwn.never rfl (pi_range1 (by rfl) (T.fr 24) (pa_cons (pe_callB call_len_seq (by rfl) (T.fr 5) (by decide +kernel) (pa_cons (pv 0) pa_nil)) pa_nil)) (pg_name (i := 5) sc__law_shares_right.nd rfl (by first | exact Or.inl rfl | exact Or.inr rfl)) (pss_cons (ps_asg (pe_ix ix_list (pv 0) (pv 5) (fun _ _ => rfl)) (pg_tup rfl (pgs_cons (pg_name (i := 6) sc__law_shares_right.nd rfl (by first | exact Or.inl rfl | exact Or.inr rfl)) (pgs_cons (pg_name (i := 7) sc__law_shares_right.nd rfl (by first | exact Or.inl rfl | exact Or.inr rfl)) pgs_nil))))
      (pss_cons (ps_set (i := 8) sc__law_shares_right.nd rfl (by first | exact Or.inl rfl | exact Or.inr rfl) (pe_f (k__law_added T) hr (pa_cons (pe_op op_cat (pe_lst (pa_cons (pe_op op_rep (pe_lst (pa_cons pe_int pa_nil)) (pe_callB call_len_seq (by rfl) (T.fr 5) (by decide +kernel) (pa_cons (pv 1) pa_nil))) pa_nil)) (pe_lc (own := [("one", 3)]) (tt := tYes) (te := (tOp (rIxT K) (tVar 3) (tC (.int 0)))) rfl sc__law_shares_right.nd (pi_list (pe_slice sl_list (pv 0) (po_some (pe_op op_add (pv 5) pe_int)) po_none)) (blkOk_by (N := ["streams_here", "item", "told", "one", "rest", "k", "low", "high", "others", "sums", "due", "bound", "here", "less"]) (sc := defScope s__law_shares_right) (by decide +kernel)) (fun _ _ _ _ _ => (pg_name (i := 3) sc__law_shares_right.nd rfl (by first | exact Or.inl rfl | exact Or.inr rfl))) (fun _ _ _ _ _ => pts_nil) (fun _ _ _ _ _ => (pe_ix ix_tup (pv 3) pe_int (fun _ _ => rfl))))) pa_nil)))
      (pss_cons (ps_set (i := 9) sc__law_shares_right.nd rfl (by first | exact Or.inl rfl | exact Or.inr rfl) (pe_f (k__law_sums T) hr (pa_cons (pe_ix ix_list (pv 2) (pv 5) (fun _ _ => rfl)) pa_nil)))
      (pss_cons (ps_setLc (i := 10) (own := [("bound", 11), ("here", 12), ("less", 13)]) (tt := tYes) (g := (gTup K 3 (gCons (gName 11) (gCons (gName 12) (gCons (gName 13) gNil))))) (te := (tCB rMin2X (tCons (tVar 11) (tCons (tOp (rI0 fun i j => .int (i - j)) (tVar 12) (tVar 13)) tNil)))) rfl sc__law_shares_right.nd rfl rfl (sw_true rfl rfl rfl (by decide +kernel)) (pi_zip3 (by rfl) (T.fr 9) (pa_cons (pv 7) (pa_cons (pv 4) (pa_cons (pv 8) pa_nil)))) (blkOk_by (N := ["streams_here", "item", "told", "one", "rest", "k", "low", "high", "others", "sums", "due", "bound", "here", "less"]) (sc := defScope s__law_shares_right) (by decide +kernel)) (fun _ _ _ _ _ => (pg_tup rfl (pgs_cons (pg_name (i := 11) sc__law_shares_right.nd rfl (by first | exact Or.inl rfl | exact Or.inr rfl)) (pgs_cons (pg_name (i := 12) sc__law_shares_right.nd rfl (by first | exact Or.inl rfl | exact Or.inr rfl)) (pgs_cons (pg_name (i := 13) sc__law_shares_right.nd rfl (by first | exact Or.inl rfl | exact Or.inr rfl)) pgs_nil))))) (fun _ _ _ _ _ => pts_nil) (fun _ _ _ _ _ => (pe_callB (call_min2 rfl) (by rfl) (T.fr 29) (by decide +kernel) (pa_cons (pv 11) (pa_cons (pe_op op_sub (pv 12) (pv 13)) pa_nil)))))
      (pss_cons (ps_if (PW.pt (pw_or (pt_cmpR (op_neD hr.units) (pv 9) (pv 10) (nomark _)) (pw_or1 (pt_cmpR (op_neD hr.units) (pe_lc (own := [("bound", 11), ("here", 12)]) (tt := (tTest (tOp (rI0 fun i j => .bl (decide (i < j))) (tVar 12) (tVar 11)))) (g := (gTup K 2 (gCons (gName 11) (gCons (gName 12) gNil)))) (te := (tC (.int 1))) rfl sc__law_shares_right.nd (pi_zip (by rfl) (T.fr 9) (pa_cons (pv 6) (pa_cons (pv 9) pa_nil))) (blkOk_by (N := ["streams_here", "item", "told", "one", "rest", "k", "low", "high", "others", "sums", "due", "bound", "here", "less"]) (sc := defScope s__law_shares_right) (by decide +kernel)) (fun _ _ _ _ _ => (pg_tup rfl (pgs_cons (pg_name (i := 11) sc__law_shares_right.nd rfl (by first | exact Or.inl rfl | exact Or.inr rfl)) (pgs_cons (pg_name (i := 12) sc__law_shares_right.nd rfl (by first | exact Or.inl rfl | exact Or.inr rfl)) pgs_nil)))) (fun _ _ _ _ _ => (pts_one (pt_cmpR op_lt (pv 12) (pv 11) (nomark _)))) (fun _ _ _ _ _ => pe_int)) (pe_lst pa_nil) (nomark _))))) (pss_one (ps_ret pe_bl)) pss_nil)
      (pss_one (ps_setLc (i := 4) (own := [("here", 12), ("one", 3)]) (tt := tYes) (g := (gTup K 2 (gCons (gName 12) (gCons (gName 3) gNil)))) (te := (tOp (rI0 fun i j => .int (i - j)) (tVar 12) (tVar 3))) rfl sc__law_shares_right.nd rfl rfl (sw_true rfl rfl rfl (by decide +kernel)) (pi_zip (by rfl) (T.fr 9) (pa_cons (pv 4) (pa_cons (pv 9) pa_nil))) (blkOk_by (N := ["streams_here", "item", "told", "one", "rest", "k", "low", "high", "others", "sums", "due", "bound", "here", "less"]) (sc := defScope s__law_shares_right) (by decide +kernel)) (fun _ _ _ _ _ => (pg_tup rfl (pgs_cons (pg_name (i := 12) sc__law_shares_right.nd rfl (by first | exact Or.inl rfl | exact Or.inr rfl)) (pgs_cons (pg_name (i := 3) sc__law_shares_right.nd rfl (by first | exact Or.inl rfl | exact Or.inr rfl)) pgs_nil)))) (fun _ _ _ _ _ => pts_nil) (fun _ _ _ _ _ => (pe_op op_sub (pv 12) (pv 3)))))))))))
      (pss_one (ps_ret pe_bl))))))))), ?_⟩
    walk_at "ev0"
    refine ⟨a, r, ts, ps, ss, n, ns, rfl, ha, st, ok, hr', ⟨ln, bnd⟩, fun D M H1 eM z => ?_⟩
    have lM : M.length = ss.length := by
      have := congrArg List.length eM
      simpa using this
    have gD := z.get (.head _)
    have ha1 := z.keep ha (nin1 fun q hq => (List.mem_cons.mp hq).elim (fun e => by rw [e]; exact (by decide : (2 : Nat) ≠ 1)) (enM_two q))
    have hr1 := z.keep hr' (nin1 fun q hq => (List.mem_cons.mp hq).elim (fun e => by rw [e]; exact (by decide : (2 : Nat) ≠ 1)) (enM_two q))
    walk_at "ev"
    refine r_iteNY (show V.int _ = V.int _ by rw [List.length_map, List.length_map, List.length_reverse, lM, lt]) ?_
    walk_at "ev"
    have rw1 : Rws H1 (M.reverse.map (·.1)) ((List.range ss.length).map (shL ss (heights ns) n)) := rws_of eM fun q hq => z.at_ q (List.mem_cons_of_mem _ hq)
    refine ⟨D, M.reverse.map (·.1), (List.range ss.length).map (shL ss (heights ns) n), n, rfl, by rw [List.map_map]; exact gD, rw1, ⟨by simpa using o1, by rw [List.length_map, List.length_range]; omega, by omega, fun k hk => by
      rw [List.length_map, List.length_range] at hk
      rw [List.getD_eq_getElem?_getD, List.getElem?_map, List.getElem?_range hk]
      exact shL_len⟩, fun p H2 hp f2 gp => ?_⟩
    rw [shares_sum ok ln bnd] at gp
    have z2 := z.same f2
    have hr2 := f2 _ _ nin hr1
    walk_at "ev"
    refine r_neI (ns := ns) (ms := ns) (SqL.of gp) (SqL.of hr2) ?_
    rw [decide_eq_true rfl]
    walk_at "ev"
    have eR : M.reverse.map Prod.snd = (List.range ss.length).map (shL ss (heights ns) n) := by rw [List.map_reverse, eM, List.reverse_reverse]
    have z3 : Z H H2 ((2, D, .lst (M.reverse.map fun q => V.ref q.1)) :: enM M.reverse) := z2.perm (List.Perm.cons _ ((List.reverse_perm M).map _))
    have lR : M.reverse.length = ss.length := by rw [List.length_reverse, lM]
    generalize M.reverse = Mr at *
    have snd_at : ∀ i q, Mr[i]? = some q → q.2 = shL ss (heights ns) n i := fun i q e => by
      have hi := (List.getElem?_eq_some_iff.mp e).1
      have e2 := congrArg (fun l => l[i]?) eR
      simp only [List.getElem?_map, e, List.getElem?_range (show i < ss.length by omega), Option.map_some] at e2
      exact Option.some.inj e2
    clear z z2 rw1 gD eM lM M gp f2 hp
    refine for_it (walk_list (xs := Mr.map fun q => V.ref q.1)) (fun m σ H' => ∃ (u3 : Option V), σ = [some (.ref a), some (.ref r), some (.ref D), u3, none, none, none, none, none, none, none, none, none, none] ∧ Z H H' ((2, D, .lst (Mr.map fun q => V.ref q.1)) :: enM ((Mr.take m).map add7 ++ Mr.drop m))) ⟨none, rfl, by simpa using z3⟩ (fun m σ H' _ pv => ?_) (fun m x σ H5 H6 hm pv y => ?_) (fun σ H5 pv => ?_)
    · obtain ⟨u3, rfl, z⟩ := pv
      exact SqL.of (z.get (.head _))
    · obtain ⟨u3, rfl, z⟩ := pv
      obtain ⟨rfl, hx⟩ := y
      rw [List.length_map] at hm
      have et : Mr[m]? = some Mr[m] := List.getElem?_eq_getElem hm
      rw [List.getElem?_map, et] at hx
      obtain rfl : x = V.ref Mr[m].1 := (Option.some.inj hx).symm
      have es := snd_at m _ et
      have lA : ((Mr.take m).map add7).length = m := by rw [List.length_map, List.length_take]; omega
      have hd : Mr.drop m = Mr[m] :: Mr.drop (m + 1) := List.drop_eq_getElem_cons hm
      have g := enM_at z Mr[m] (by rw [hd]; exact List.mem_append_right _ List.mem_cons_self)
      have lq : Mr[m].2.length = n := by rw [es, shL_len]
      walk_at "ev"
      refine ⟨_, rfl, ?_⟩
      have w := z.set (m + 1) (t := 2) (a := Mr[m].1) (o := .lst (Mr[m].2.map V.int)) (.lst (Mr[m].2.map V.int ++ [.int 7])) (by
        rw [List.getElem?_cons_succ, List.getElem?_map, hd, List.getElem?_append_right (by omega), lA, Nat.sub_self]
        rfl) (.inr rfl)
      have eE : (((2, D, .lst (Mr.map fun q => V.ref q.1)) : En) :: enM ((Mr.take m).map add7 ++ Mr.drop m)).set (m + 1) (2, Mr[m].1, .lst (Mr[m].2.map V.int ++ [.int 7])) = (2, D, .lst (Mr.map fun q => V.ref q.1)) :: enM ((Mr.take (m + 1)).map add7 ++ Mr.drop (m + 1)) := by
        have e1 : ((2, Mr[m].1, .lst (Mr[m].2.map V.int ++ [.int 7])) : En) = (2, (add7 Mr[m]).1, .lst ((add7 Mr[m]).2.map V.int)) := by
          unfold add7
          rw [List.map_append]
          rfl
        have e2 := set_mid ((Mr.take m).map add7) (Mr.drop (m + 1)) Mr[m] (add7 Mr[m])
        rw [lA] at e2
        rw [List.set_cons_succ, e1, enM_set, hd, e2, List.take_succ_eq_append_getElem hm, List.map_append, List.append_assoc]
        rfl
      rw [eE] at w
      exact w
    obtain ⟨u3, rfl, z5⟩ := pv
    rw [List.length_map, List.take_length, List.drop_length, List.append_nil] at z5
    have f05 := z5.fr0 th1
    have ha5 := f05 _ _ nin ha
    have hr5 := f05 _ _ nin hr'
    have st5 := st.mono f05
    have gD5 := z5.get (.head _)
    have g75 := enM_at z5
    walk_at "ev"
    refine ⟨a, r, ts, ps, ss, n, ns, rfl, ha5, st5, ok, hr5, ⟨ln, bnd⟩, fun D2 M2 H6 eM2 z6 => ?_⟩
    have f56 := z6.fr0 th1
    have gD6 := f56 _ _ nin gD5
    walk_at "ev"
    refine lc_lists (walk_list (xs := Mr.map fun q => V.ref q.1)) (fun i => shL ss (heights ns) n i) (by rw [List.length_map]; omega) (fun H' e => e.sql (SqL.of gD6) nin) (fun i H' x H'' y => y.1) (fun i x H' R hi e y kR => ?_) (fun D3 M3 H7 eM3 z7 => ?_)
    · obtain ⟨_, hx⟩ := y
      rw [List.length_map] at hi
      have et : Mr[i]? = some Mr[i] := List.getElem?_eq_getElem hi
      rw [List.getElem?_map, et] at hx
      obtain rfl : x = V.ref Mr[i].1 := (Option.some.inj hx).symm
      have es := snd_at i _ et
      have g := (f56.trans e) _ _ nin (g75 (add7 Mr[i]) (List.mem_map.mpr ⟨_, List.getElem_mem hi, rfl⟩))
      have g : H' Mr[i].1 = some (.lst ((Mr[i].2 ++ [7]).map V.int)) := g
      walk_at "ev"
      refine ⟨rfl, ?_⟩
      walk_at "ev"
      rw [cut_last, ← List.map_dropLast, List.dropLast_concat, es]
      intro p hp
      exact kR p _ ((Fr.refl _).new hp) hp upd_same
    rw [List.length_map, lR] at eM3
    have xs2 : LLAt H7 (M2.reverse.map fun q => V.ref q.1) ((List.range ss.length).map (shL ss (heights ns) n)) := by
      have q := llat_of (M := M2.reverse) fun q hq => (z7.fr0 th1) _ _ nin (enM_at z6 q (List.mem_reverse.mp hq))
      rw [List.map_reverse (f := Prod.snd), eM2, List.reverse_reverse] at q
      exact q
    have xs3 : LLAt H7 (M3.reverse.map fun q => V.ref q.1) ((List.range ss.length).map (shL ss (heights ns) n)) := by
      have q := llat_of (M := M3.reverse) fun q hq => enM_at z7 q (List.mem_reverse.mp hq)
      rw [List.map_reverse (f := Prod.snd), eM3, List.reverse_reverse] at q
      exact q
    have gD27 := (z7.fr0 th1) _ _ nin (z6.get (.head _))
    refine r_neLL gD27 (z7.get (.head _)) xs2 xs3 ?_
    have f07 := (f05.trans f56).trans (z7.fr0 th1)
    have ha7 := f07 _ _ nin ha
    have hr7 := f07 _ _ nin hr'
    have st7 := st.mono f07
    clear xs2 xs3 gD27 z7 z6 z5 z3 eM2 eM3 f56 gD6 gD5 g75 ha5 hr5 st5 f05 eR lR snd_at ha1 hr1 hr2
    walk_at "ev"
    refine ⟨a, r, ts, ps, ss, n, ns, rfl, ha7, st7, ok, hr7, ⟨ln, bnd⟩, fun D4 M4 H8 eM4 z8 => ?_⟩
    have f08 := f07.trans (z8.fr0 th1)
    have hr8 := f08 _ _ nin hr'
    have gD8 := z8.get (.head _)
    have rw8 : Rws H8 (M4.reverse.map (·.1)) ((List.range ss.length).map (shL ss (heights ns) n)) := rws_of eM4 fun q hq => z8.at_ q (List.mem_cons_of_mem _ hq)
    clear z8 eM4
    walk_at "ev"
    refine ⟨r, ns, rfl, hr8, by omega, fun rs H9 hrs f9 grs => ?_⟩
    have f09 := f08.trans f9
    have ha9 := f09 _ _ nin ha
    have rw9 := rw8.mono f9
    have gD9 := f9 _ _ nin gD8
    have lr9 := rw9.len
    rw [List.length_map, List.length_map, List.length_range] at lr9
    clear rw8 gD8 hr8 f07 f08 f9 ha7 hr7 st7
    walk_at "ev"
    refine ⟨by rw [List.length_map]; omega, by rw [List.length_map]; omega, ?_⟩
    rw [show (((ts.map V.ref).length : Nat) : Int).toNat = ss.length by rw [List.length_map]; omega]
    refine for_it (walk_range (lo := 0) (n := ss.length)) (fun m σ H' => ∃ (re : Addr) (u3 u5 u6 u7 u8 u9 u10 : Option V), σ = [some (.ref a), some (.ref r), some (.ref D4), u3, some (.ref re), u5, u6, u7, u8, u9, u10, none, none, none] ∧ Fr [] H9 H' ∧ H' re = some (.lst ((leftL ss (heights ns) n m).map V.int))) ⟨rs, _, none, none, none, none, none, none, rfl, Fr.refl _, by rw [leftL_zero (by rw [hsTo_len, ln])]; exact grs⟩ (fun _ _ _ _ _ => trivial) (fun m x σ H10 H11 hm pv y => ?_) (fun σ H10 pv => ?_)
    · obtain ⟨re, u3, u5, u6, u7, u8, u9, u10, rfl, f10, gre⟩ := pv
      obtain ⟨rfl, rfl⟩ := y
      have ez : (0 : Int) + (m : Int) = (m : Int) := Int.zero_add _
      simp only [ez]
      have f0 := f09.trans f10
      have ha1 := f0 _ _ nin ha
      have hr1 := f0 _ _ nin hr'
      have st1 := st.mono f0
      have gD1 := f10 _ _ nin gD9
      have rw1 := rw9.mono f10
      have et : ts[m]? = some ts[m] := List.getElem?_eq_getElem (by omega)
      have g1 := st1.tup m _ et
      have g2 := st1.low m hm
      have g3 := st1.high m hm
      have l1 := ok.l1 m hm
      have l2 := ok.l2 m hm
      walk_at "ev"
      refine r_at (atI_nat (by rw [List.getElem?_map, et]; rfl)) ?_
      walk_at "ev"
      intro c kc
      have z1 := (Z.start0 H11).alloc (.lst [.int 0]) kc
      walk_at "ev"
      refine r_repZ n (z1.get (.head _)) (by rw [List.length_map, ln]) (by omega) ?_
      intro zz kzz
      have z2 := z1.alloc (.lst ((repZ n 0).map V.int)) kzz
      walk_at "ev"
      intro zl kzl
      have z3 := z2.alloc (.lst [.ref zz]) kzl
      have ha3 := z3.keep ha1 (by simp)
      have st3 := st1.mono (z3.fr0 (by simp))
      walk_at "ev"
      rw [show (m : Int) + 1 = ((m + 1 : Nat) : Int) by omega, cut_from (by rw [List.length_map]; omega)]
      intro sl ksl
      have z4 := z3.alloc (.lst ((ts.map V.ref).drop (m + 1))) ksl
      have gsl := z4.get (.head _)
      have st4 := st1.mono (z4.fr0 (by simp))
      refine ⟨sl, rfl, ⟨_, SqL.of gsl⟩, ?_⟩
      refine lc_pure (walk_list (xs := (ts.map V.ref).drop (m + 1))) (fun i => .ref (ps.getD (m + 1 + i) (0, 0)).1) (by rw [List.length_drop, List.length_map]; omega) (fun H' e => e.sql (SqL.of gsl) nin) (fun i H' x H'' y => by rw [y.1]; exact Fr.refl _) (fun i x H' H'' R hi e y kR => ?_) (fun D1 HA hD1 e1 hD1' => ?_)
      · obtain ⟨rfl, hx⟩ := y
        rw [List.length_drop, List.length_map, lt] at hi
        have et2 : ts[m + 1 + i]? = some ts[m + 1 + i] := List.getElem?_eq_getElem (by omega)
        rw [List.getElem?_drop, List.getElem?_map, et2] at hx
        obtain rfl : x = V.ref ts[m + 1 + i] := (Option.some.inj hx).symm
        have gt := (st4.mono e).tup (m + 1 + i) _ et2
        walk_at "ev"
        refine ⟨rfl, ?_⟩
        walk_at "ev"
        exact kR _ (Fr.refl _)
      rw [List.length_drop, List.length_map, lt] at hD1'
      have z5 := z4.comp e1 hD1 hD1'
      have g5 := z5.get (.head _)
      have gz := z5.get (.tail _ (.tail _ (.head _)))
      walk_at "ev"
      intro q kq
      have z6 := z5.alloc (.lst ([V.ref zz] ++ (List.range (ss.length - (m + 1))).map fun i => V.ref (ps.getD (m + 1 + i) (0, 0)).1)) kq
      have gq := z6.get (.head _)
      have gzz := z6.get (.tail _ (.tail _ (.tail _ (.tail _ (.head _)))))
      have st6 := st1.mono (z6.fr0 (by simp))
      walk_at "ev"
      refine ⟨q, zz :: (List.range (ss.length - (m + 1))).map fun k => (ps.getD (m + 1 + k) (0, 0)).1, repZ n 0 :: (ss.drop (m + 1)).map (·.1), n, rfl, by rw [List.map_cons, List.map_map]; exact gq, (st6.lowsFrom (m + 1)).cons gzz, ⟨by simp, by rw [List.length_cons, List.length_map, List.length_drop]; omega, by omega, fun k hk => by
        cases k with
        | zero => exact repZ_len
        | succ k =>
          rw [List.length_cons, List.length_map, List.length_drop] at hk
          show (((ss.drop (m + 1)).map (·.1)).getD k []).length = n
          rw [List.getD_eq_getElem?_getD, List.getElem?_map, List.getElem?_drop, List.getElem?_eq_getElem (show m + 1 + k < ss.length by omega)]
          have q := ok.l1 (m + 1 + k) (by omega)
          rw [List.getD_eq_getElem?_getD, List.getElem?_eq_getElem (show m + 1 + k < ss.length by omega)] at q
          exact q⟩, fun ot HB hot f7 got => ?_⟩
      rw [others_sum] at got
      have f17 := (z6.fr0 (by simp)).trans f7
      clear z1 z2 z3 z4 z5 z6 gq gzz st6 st3 st4 gsl g5 gz hD1' e1 hD1 ha3 ksl kzl kzz kc kq
      have rw7 := rw1.mono f17
      have gD7 := f17 _ _ nin gD1
      have e4 : (M4.reverse.map fun q => V.ref q.1)[m]? = some (.ref (M4.reverse[m]'(by rw [lr9]; exact hm)).1) := by
        rw [List.getElem?_map, List.getElem?_eq_getElem (by rw [lr9]; exact hm)]
        rfl
      have gsh := rw7.at_ m (M4.reverse[m]'(by rw [lr9]; exact hm)).1 (by rw [List.getElem?_map, List.getElem?_eq_getElem (by rw [lr9]; exact hm)]; rfl)
      rw [show ((List.range ss.length).map (shL ss (heights ns) n)).getD m [] = shL ss (heights ns) n m by rw [List.getD_eq_getElem?_getD, List.getElem?_map, List.getElem?_range hm]; rfl] at gsh
      walk_at "ev"
      refine r_at (atI_nat e4) ?_
      walk_at "ev"
      refine ⟨_, shL ss (heights ns) n m, rfl, gsh, by rw [shL_len]; omega, fun sp HC hsp f8 gsp => ?_⟩
      rw [show heights (shL ss (heights ns) n m) = sumL ss (heights ns) n m from heights_diffs] at gsp
      have f18 := f17.trans f8
      have got8 := f8 _ _ nin got
      have gre8 := f18 _ _ nin gre
      have g38 := f18 _ _ nin g3
      have g28 := f18 _ _ nin g2
      walk_at "ev"
      refine lc_pure (walk_zip3I (n := n) (xs := (ss.getD m ([], [])).2) (ys := leftL ss (heights ns) n m) (zs := lowL ss n (m + 1)) l2 leftL_len lowL_len) (fun i => .int (sumA ss (heights ns) m i)) (by omega) (fun H' e => ⟨e.sql (SqL.of g38) nin, e.sql (SqL.of gre8) nin, e.sql (SqL.of got8) nin⟩)
        (fun i H' x H'' y => by obtain ⟨t, rfl, ht, rfl⟩ := y; exact (Fr.refl _).new ht) (fun i x H' H'' R hi e y kR => ?_) (fun D2 HD hD2 e2 hD2' => ?_)
      · obtain ⟨t, rfl, ht, rfl⟩ := y
        have e9 : min (nth (ss.getD m ([], [])).2 i) (nth (leftL ss (heights ns) n m) i - nth (lowL ss n (m + 1)) i) = sumA ss (heights ns) m i := by
          unfold leftL lowL sumA
          rw [nth_range hi, nth_range hi]
        rw [← e9] at kR
        walk_at "ev"
        refine ⟨rfl, ?_⟩
        walk_at "ev"
        rw [ifmin]
        exact kR _ (Fr.refl _)
      have hD2' : HD D2 = some (.lst ((sumL ss (heights ns) n m).map V.int)) := by
        unfold sumL
        rw [List.map_map]
        exact hD2'
      have gsp9 := e2 _ _ nin gsp
      have g29 := e2 _ _ nin g28
      have gre9 := e2 _ _ nin gre8
      walk_at "ev"
      refine r_neI (ns := sumL ss (heights ns) n m) (ms := sumL ss (heights ns) n m) (SqL.of gsp9) (SqL.of hD2') ?_
      rw [decide_eq_true rfl]
      walk_at "ev"
      refine lc_filt (walk_zip (xs := ((ss.getD m ([], [])).1).map V.int) (ys := (sumL ss (heights ns) n m).map V.int) (n := n) (by rw [List.length_map, List.length_map, l1, sumL_len, Nat.min_self])) (fun _ => .int 1) (fun _ => false) (by omega) (fun H' e => ⟨e.sql (SqL.of g29) nin, e.sql (SqL.of gsp9) nin⟩) (fun i H' x H'' y => by obtain ⟨T, x1, x2, _, h0, rfl, _⟩ := y; exact (Fr.refl _).new h0) (fun i x H' H'' R' N hi e y kR kN => ?_) (fun D3 HE hD3 e3 hD3' => ?_)
      · obtain ⟨T, x1, x2, rfl, h0, rfl, g4, g5⟩ := y
        obtain rfl := nth_at g4
        obtain rfl := nth_at g5
        have e9 : nth (ss.getD m ([], [])).1 i ≤ nth (sumL ss (heights ns) n m) i := by
          unfold sumL
          rw [nth_range hi]
          exact (sumA_in ok hi (bnd i hi) hm).1
        walk_at "ev"
        refine ⟨rfl, ?_⟩
        walk_at "ev"
        refine r_iteZ (by omega) ?_
        exact kN rfl _ (Fr.refl _)
      rw [show ((List.range n).filter fun _ => false).map (fun _ => V.int 1) = [] by simp] at hD3'
      have gsp10 := e3 _ _ nin gsp9
      have gre10 := e3 _ _ nin gre9
      walk_at "ev"
      intro n9 kn9
      have fn := (Fr.refl HE).new (J := []) (o := .lst []) kn9
      refine r_neI (ns := []) (ms := []) (SqL.of (fn _ _ nin hD3')) (SqL.of upd_same) ?_
      rw [decide_eq_true (rfl : ([] : List Int) = [])]
      have gsp11 := fn _ _ nin gsp10
      have gre11 := fn _ _ nin gre10
      walk_at "ev"
      refine lc_pure (walk_zip (xs := (leftL ss (heights ns) n m).map V.int) (ys := (sumL ss (heights ns) n m).map V.int) (n := n) (by rw [List.length_map, List.length_map, leftL_len, sumL_len, Nat.min_self])) (fun i => .int (leftA ss (heights ns) (m + 1) i)) (by omega) (fun H' e => ⟨e.sql (SqL.of gre11) nin, e.sql (SqL.of gsp11) nin⟩)
        (fun i H' x H'' y => by obtain ⟨T, x1, x2, _, h0, rfl, _⟩ := y; exact (Fr.refl _).new h0) (fun i x H' H'' R hi e y kR => ?_) (fun D5 HF hD5 e5 hD5' => ?_)
      · obtain ⟨T, x1, x2, rfl, h0, rfl, g4, g5⟩ := y
        obtain rfl := nth_at g4
        obtain rfl := nth_at g5
        have e9 : nth (leftL ss (heights ns) n m) i - nth (sumL ss (heights ns) n m) i = leftA ss (heights ns) (m + 1) i := by
          unfold leftL sumL
          rw [nth_range hi, nth_range hi]
          rfl
        rw [← e9] at kR
        walk_at "ev"
        refine ⟨rfl, ?_⟩
        walk_at "ev"
        exact kR _ (Fr.refl _)
      walk_at "ev"
      refine ⟨D5, _, _, _, _, _, _, _, rfl, (((((f10.trans f18).trans e2).trans e3).trans fn).trans e5), ?_⟩
      unfold leftL
      rw [List.map_map]
      exact hD5'
    · obtain ⟨re, u3, u5, u6, u7, u8, u9, u10, rfl, f10, gre⟩ := pv
      walk_at "ev"
      exact k _ (f09.trans f10)
end
set_option Elab.async false
set_option linter.all false
set_option maxRecDepth 100000
set_option maxHeartbeats 4000000
set_option exponentiation.threshold 3000
abbrev tsM (M : List StM) : List Addr := M.map (·.1)
abbrev psM (M : List StM) : List (Addr × Addr) := M.map fun q => (q.2.1, q.2.2.1)
abbrev ssM (M : List StM) : List (List Int × List Int) := M.map fun q => (q.2.2.2.1, q.2.2.2.2)
theorem flat_mem : ∀ {M : List StM} {q : StM}, q ∈ M → (q.2.1, HO.lst (q.2.2.2.1.map V.int)) ∈ flatS M ∧ (q.2.2.1, HO.lst (q.2.2.2.2.map V.int)) ∈ flatS M ∧ (q.1, HO.tup [.ref q.2.1, .ref q.2.2.1]) ∈ flatS M
  | x :: M, q, h => by
    rcases List.mem_cons.mp h with rfl | h
    · exact ⟨.head _, .tail _ (.head _), .tail _ (.tail _ (.head _))⟩
    · obtain ⟨a, b, c⟩ := flat_mem h
      exact ⟨.tail _ (.tail _ (.tail _ a)), .tail _ (.tail _ (.tail _ b)), .tail _ (.tail _ (.tail _ c))⟩
theorem sts_of {H : Hp} {M N : List StM} (hN : ∀ q ∈ N, q ∈ M) (h : ∀ q ∈ enS M, H q.2.1 = some q.2.2) : Sts H (tsM N) (psM N) (ssM N) := by
  have g : ∀ q ∈ N, H q.2.1 = some (.lst (q.2.2.2.1.map V.int)) ∧ H q.2.2.1 = some (.lst (q.2.2.2.2.map V.int)) ∧ H q.1 = some (.tup [.ref q.2.1, .ref q.2.2.1]) := fun q hq => by
    obtain ⟨a, b, c⟩ := flat_mem (hN q hq)
    exact ⟨h _ (List.mem_map.mpr ⟨_, a, rfl⟩), h _ (List.mem_map.mpr ⟨_, b, rfl⟩), h _ (List.mem_map.mpr ⟨_, c, rfl⟩)⟩
  refine ⟨by simp, by simp, fun k t e => ?_, fun k hk => ?_, fun k hk => ?_⟩
  · rw [List.getElem?_map] at e
    cases hq : N[k]? with
    | none => rw [hq] at e; cases e
    | some q =>
      rw [hq] at e
      obtain rfl := Option.some.inj e
      have ep : (psM N).getD k (0, 0) = (q.2.1, q.2.2.1) := by rw [List.getD_eq_getElem?_getD, List.getElem?_map, hq]; rfl
      rw [ep]
      exact (g q (List.mem_of_getElem? hq)).2.2
  · rw [List.length_map] at hk
    have hq : N[k]? = some N[k] := List.getElem?_eq_getElem hk
    have ep : (psM N).getD k (0, 0) = (N[k].2.1, N[k].2.2.1) := by rw [List.getD_eq_getElem?_getD, List.getElem?_map, hq]; rfl
    have es : (ssM N).getD k ([], []) = (N[k].2.2.2.1, N[k].2.2.2.2) := by rw [List.getD_eq_getElem?_getD, List.getElem?_map, hq]; rfl
    rw [ep, es]
    exact (g _ (List.getElem_mem hk)).1
  · rw [List.length_map] at hk
    have hq : N[k]? = some N[k] := List.getElem?_eq_getElem hk
    have ep : (psM N).getD k (0, 0) = (N[k].2.1, N[k].2.2.1) := by rw [List.getD_eq_getElem?_getD, List.getElem?_map, hq]; rfl
    have es : (ssM N).getD k ([], []) = (N[k].2.2.2.1, N[k].2.2.2.2) := by rw [List.getD_eq_getElem?_getD, List.getElem?_map, hq]; rfl
    rw [ep, es]
    exact (g _ (List.getElem_mem hk)).2.1
theorem ssok_of {far : Int} {tm : Nat} {N : List StM} (h1 : 1 ≤ N.length) (h2 : N.length ≤ 20) (t1 : 1 ≤ tm) (t2 : tm ≤ 200) (h : ∀ q ∈ N, StB tm far q.2.2.2.1 q.2.2.2.2) : SsOk tm (ssM N) := by
  have g : ∀ k, k < (ssM N).length → StB tm far ((ssM N).getD k ([], [])).1 ((ssM N).getD k ([], [])).2 := fun k hk => by
    rw [List.length_map] at hk
    have es : (ssM N).getD k ([], []) = (N[k].2.2.2.1, N[k].2.2.2.2) := by rw [List.getD_eq_getElem?_getD, List.getElem?_map, List.getElem?_eq_getElem hk]; rfl
    rw [es]
    exact h _ (List.getElem_mem hk)
  exact ⟨by rw [List.length_map]; exact h1, by rw [List.length_map]; exact h2, t1, t2, fun k hk => (g k hk).1, fun k hk => (g k hk).2.1, fun k hk i hi => ((g k hk).2.2.1 i hi).1, fun k hk => (g k hk).2.2.2⟩
theorem sum_far {far : Int} (f0 : 0 ≤ far) {i : Nat} : ∀ {N : List (List Int × List Int)}, (∀ s ∈ N, nth s.2 i ≤ nth s.1 i + 3 * far) → (N.map fun s => nth s.2 i).sum ≤ (N.map fun s => nth s.1 i).sum + N.length * (3 * far)
  | [], _ => by simp
  | s :: N, h => by
    have a := h s List.mem_cons_self
    have b := sum_far f0 (N := N) fun s hs => h s (List.mem_cons_of_mem _ hs)
    simp only [List.map_cons, List.sum_cons, List.length_cons]
    have e : (((N.length + 1 : Nat) : Int)) * (3 * far) = N.length * (3 * far) + 3 * far := by
      rw [Int.natCast_add, Int.add_mul]
      simp
    omega
def ssD (ss : List (List Int × List Int)) : List PyData := ss.map fun s => .tuple [.list (s.1.map PyData.int), .list (s.2.map PyData.int)]
theorem canLay_ss : ∀ ss : List (List Int × List Int), PyData.canLayAll0 (ssD ss) = true
  | [] => rfl
  | s :: r => by
    have := canLay_ss r
    show PyData.canLayAll0 (.tuple [.list (s.1.map PyData.int), .list (s.2.map PyData.int)] :: ssD r) = true
    rw [PyData.canLayAll0, this, PyData.canLay0]
    simp only [PyData.canLayAll0, PyData.canLay0, canLay_ints]
    rfl
theorem depth_ss : ∀ ss : List (List Int × List Int), PyData.depthAll (ssD ss) ≤ 2
  | [] => Nat.zero_le _
  | s :: r => by
    have := depth_ss r
    show PyData.depthAll (.tuple [.list (s.1.map PyData.int), .list (s.2.map PyData.int)] :: ssD r) ≤ 2
    rw [PyData.depthAll, PyData.depth]
    simp only [PyData.depthAll, PyData.depth, depthA_ints]
    omega
theorem shaped_ss (ss : List (List Int × List Int)) : SeqAt.shaped (.list (ssD ss)) = true := by
  have := depth_ss ss
  unfold SeqAt.shaped
  rw [PyData.canLay0, canLay_ss, PyData.depth, decide_eq_true (by omega)]
  rfl
theorem Sts.dp {K : PySem.W.Frag} {H : Hp} : ∀ {ts : List Addr} {ps : List (Addr × Addr)} {ss : List (List Int × List Int)}, Sts H ts ps ss → DpAll K H (ts.map V.ref) (ssD ss)
  | [], _, [], _ => .nil
  | [], _, _ :: _, h => by cases h.lt
  | _ :: _, _, [], h => by cases h.lt
  | t :: ts, [], s :: ss, h => by cases h.lp
  | t :: ts, p :: ps, s :: ss, h => by
    have h1 := h.tup 0 t rfl
    have h2 := h.low 0 (by simp)
    have h3 := h.high 0 (by simp)
    have st : Sts H ts ps ss := ⟨Nat.succ.inj h.lt, Nat.succ.inj h.lp, fun k t e => h.tup (k + 1) t e, fun k hk => h.low (k + 1) (by simp; omega), fun k hk => h.high (k + 1) (by simp; omega)⟩
    exact .cons (.tup (SqT.of h1) (.cons (.lst (SqL.of h2) (dpAll_ints _)) (.cons (.lst (SqL.of h3) (dpAll_ints _)) .nil))) st.dp
theorem r_neSS {K : PySem.W.Frag} {H : Hp} {Q : VK} {a b : Addr} {ts us : List Addr} {ps qs : List (Addr × Addr)} {ss : List (List Int × List Int)} (ha : H a = some (.lst (ts.map V.ref))) (hb : H b = some (.lst (us.map V.ref))) (h1 : Sts H ts ps ss) (h2 : Sts H us qs ss) (q : Q (.bl false) H) : rNeD K (.ref a) (.ref b) H Q := by
  refine ⟨.list (ssD ss), .list (ssD ss), .lst (SqL.of ha) h1.dp, .lst (SqL.of hb) h2.dp, shaped_ss _, shaped_ss _, ?_⟩
  rw [SeqAt.eqv_refl _ (SeqAt.canLay_of_shaped (shaped_ss _))]
  exact q
set_option Elab.async false
set_option linter.all false
set_option maxRecDepth 100000
set_option maxHeartbeats 4000000
set_option exponentiation.threshold 3000
theorem enS_two {M : List StM} {D : Addr} {o : HO} : ∀ q ∈ ((2, D, o) : En) :: enS M, q.1 ≠ 1 := fun q hq => by
  rcases List.mem_cons.mp hq with rfl | hq
  · exact (by decide : (2 : Nat) ≠ 1)
  · obtain ⟨r, _, rfl⟩ := List.mem_map.mp hq
    exact (by decide : (2 : Nat) ≠ 1)
/-- copies of streams, listed -/
theorem lc_kept {J : It} {n : Nat} {GG : Hp → Prop} {Y : Nat → Hp → V → Hp → Prop} {g : TG} {te : TE} {vs : List Nat} {σ : L2.St} {H1 : Hp} {Q : VK} (w : Walk J n GG Y) (f : Nat → List Int × List Int) (hn : n ≤ 1000) (hG : ∀ H', Fr [] H1 H' → GG H') (hY : ∀ i H' x H'', Y i H' x H'' → H'' = H')
    (he : ∀ i x H' (R : VK), i < n → Fr [] H1 H' → Y i H' x H' → (∀ t l h H4, Fr [] H' H4 → New H' H4 [(l, .lst ((f i).1.map V.int)), (h, .lst ((f i).2.map V.int)), (t, .tup [.ref l, .ref h])] → R (.ref t) H4) → g x (wipe σ vs) H' fun σ2 H2 => wipe σ2 vs = wipe σ vs ∧ te σ2 H2 R)
    (hd : ∀ (D : Addr) (M : List StM) H', ssM M = ((List.range n).map f).reverse → Z H1 H' ((2, D, .lst (M.reverse.map fun q => .ref q.1)) :: enS M) → Q (.ref D) H') : LcJ g tYes te vs σ Q J H1 := by
  intro D hD
  refine lc_it w (fun i H' => i ≤ n ∧ ∃ M : List StM, ssM M = ((List.range i).map f).reverse ∧ Z H1 H' ((2, D, .lst (M.reverse.map fun q => .ref q.1)) :: enS M))
    ⟨Nat.zero_le _, [], rfl, (Z.start0 H1).alloc _ hD⟩ (fun i H' _ ⟨_, M, _, z⟩ => hG H' (z.fr0 enS_two)) (fun i x H' H'' hi ⟨_, M, e, z⟩ y => ?_) (fun H' ⟨_, M, e, z⟩ => hd D M H' e z)
  obtain rfl := hY i H' x H'' y
  refine he i x H'' _ hi (z.fr0 enS_two) y fun t l h H4 f4 nw => ⟨M.reverse.map fun q => .ref q.1, f4 _ _ nin (z.get (.head _)), ?_, hi, (t, l, h, (f i).1, (f i).2) :: M, ?_, ?_⟩
  · have l := congrArg List.length e
    simp only [List.length_map, List.length_reverse, List.length_range] at l
    rw [List.length_map, List.length_reverse, l]
    exact Nat.lt_of_lt_of_le (show i < 1001 by omega) (by decide)
  · show ((f i).1, (f i).2) :: ssM M = _
    rw [e, List.range_succ, List.map_append, List.reverse_append]
    rfl
  · have z2 := (z.call0 f4 nw).set 3 (.lst ((M.reverse.map fun q => V.ref q.1) ++ [.ref t])) rfl (.inr rfl)
    rw [List.reverse_cons, List.map_append]
    exact z2.perm (List.perm_middle (l₁ := [((2, l, .lst ((f i).1.map V.int)) : En), (2, h, .lst ((f i).2.map V.int)), (2, t, .tup [.ref l, .ref h])])).symm
theorem two_at {a b v : Int} (h0 : 0 ≤ v) (h1 : v < 2) : ∃ x, atI [V.int a, V.int b] v = some (.int x) ∧ (x = a ∨ x = b) := by
  rcases (show v = 0 ∨ v = 1 by omega) with rfl | rfl
  · exact ⟨a, rfl, .inl rfl⟩
  · exact ⟨b, rfl, .inr rfl⟩
theorem two_of {M : List (Addr × List Int)} {x y : List Int} (h : M.map Prod.snd = [x, y]) : ∃ b c, M = [(b, x), (c, y)] := by
  match M, h with
  | [(b, _), (c, _)], h =>
    simp only [List.map_cons, List.map_nil, List.cons.injEq] at h
    obtain ⟨rfl, rfl, _⟩ := h
    exact ⟨b, c, rfl⟩
theorem kb_joint_most_least_streams : KwOk "joint" "joint" s_joint ["streams", "least", "most"] ["most", "least", "streams"] 0 revA := fun _ _ _ _ _ _ us ws h1 h2 => match us, ws, h1, h2 with
  | [], [_, _, _], _, _ => rfl
theorem kr_joint_most_least_streams {vs : List V} {us : List Value} {zs : List V} {ws : List Value} (h1 : Vals vs us) (h2 : Vals zs ws) (h3 : zs.length = ["most", "least", "streams"].length) (h4 : vs.length = 0) : Vals (revA vs zs) (revA us ws) := kr_rev0 h1 h2 h3 h4
theorem kb_shares_row_streams : KwOk "shares" "shares" s_shares ["streams", "row"] ["row", "streams"] 0 revA := fun _ _ _ _ _ _ us ws h1 h2 => match us, ws, h1, h2 with
  | [], [_, _], _, _ => rfl
theorem kr_shares_row_streams {vs : List V} {us : List Value} {zs : List V} {ws : List Value} (h1 : Vals vs us) (h2 : Vals zs ws) (h3 : zs.length = ["row", "streams"].length) (h4 : vs.length = 0) : Vals (revA vs zs) (revA us ws) := kr_rev0 h1 h2 h3 h4
section
variable {P : Program} {w : World} {K : PySem.W.Frag} {mg : Str → Option Value} {base : Heap}
def sp_law (K : PySem.W.Frag) : Sp := fun vs H Q _ => ∃ (a : Addr) (ns : List Int), vs = [.ref a] ∧ SqL K H a (ns.map V.int) ∧ ns.length ≤ 63 ∧ ∀ H', Q (.bl true) H'
theorem k_law (T : Tx fa fn K mg base) : Fk P w K mg base "law" ["script"] 7 (sp_law K) s_law "law" := by
  refine T.fk 24 44 (q := "law") (st := s_law) sc_law (fun _ _ _ _ _ _ us hl => match us, hl with | [_], _ => rfl) (fun vs H Q E h => ?_) (fun cdv A outer s H vs Q E hr h => ?_)
  · obtain ⟨a, ns, rfl, _⟩ := h
    rfl
  · obtain ⟨a, ns, rfl, hs, hl, k⟩ := h
    refine ⟨_, (pss_cons (ps_set (i := 1) sc_law.nd rfl (by first | exact Or.inl rfl | exact Or.inr rfl) (pe_f (k__law_bag T) hr (pa_cons (pv 0) pa_nil)))
      (pss_cons (ps_for PassesOwn.never rfl (pi_range1 (by rfl) (T.fr 24) (pa_cons pe_int pa_nil)) (pg_name (i := 2) sc_law.nd rfl (by first | exact Or.inl rfl | exact Or.inr rfl)) (pss_cons (ps_set (i := 3) sc_law.nd rfl (by first | exact Or.inl rfl | exact Or.inr rfl) (pe_ix ix_list (pe_lst (pa_cons pe_int (pa_cons (pe_op op_powW pe_int pe_int) pa_nil))) (pe_f (k__law_draw T) hr (pa_cons (pv 1) (pa_cons pe_int pa_nil))) (fun _ _ => rfl)))
      (pss_cons (ps_set (i := 4) sc_law.nd rfl (by first | exact Or.inl rfl | exact Or.inr rfl) (pe_f (k__law_streams T) hr (pa_cons (pv 1) (pa_cons (pe_ix ix_list (pe_lst (pa_cons pe_int (pa_cons pe_int pa_nil))) (pe_f (k__law_draw T) hr (pa_cons (pv 1) (pa_cons pe_int pa_nil))) (fun _ _ => rfl)) (pa_cons (pv 3) pa_nil)))))
      (pss_cons (ps_par (i := 5) (j := 6) (by rfl) sc_law.nd rfl rfl (by decide) rfl rfl (pa_cons (pe_f (k__law_added T) hr (pa_cons (pe_lc (own := [("low", 15), ("high", 16)]) (tt := tYes) (g := (gTup K 2 (gCons (gName 15) (gCons (gName 16) gNil)))) (te := (tVar 15)) rfl sc_law.nd (pi_list (pv 4)) (blkOk_by (N := ["script", "bag", "turn", "far", "some", "lows", "highs", "under", "over", "kept", "made", "k", "item", "two", "told", "low", "high", "bound"]) (sc := defScope s_law) (by decide +kernel)) (fun _ _ _ _ _ => (pg_tup rfl (pgs_cons (pg_name (i := 15) sc_law.nd rfl (by first | exact Or.inl rfl | exact Or.inr rfl)) (pgs_cons (pg_name (i := 16) sc_law.nd rfl (by first | exact Or.inl rfl | exact Or.inr rfl)) pgs_nil)))) (fun _ _ _ _ _ => pts_nil) (fun _ _ _ _ _ => (pv 15))) pa_nil)) (pa_cons (pe_f (k__law_added T) hr (pa_cons (pe_lc (own := [("low", 15), ("high", 16)]) (tt := tYes) (g := (gTup K 2 (gCons (gName 15) (gCons (gName 16) gNil)))) (te := (tVar 16)) rfl sc_law.nd (pi_list (pv 4)) (blkOk_by (N := ["script", "bag", "turn", "far", "some", "lows", "highs", "under", "over", "kept", "made", "k", "item", "two", "told", "low", "high", "bound"]) (sc := defScope s_law) (by decide +kernel)) (fun _ _ _ _ _ => (pg_tup rfl (pgs_cons (pg_name (i := 15) sc_law.nd rfl (by first | exact Or.inl rfl | exact Or.inr rfl)) (pgs_cons (pg_name (i := 16) sc_law.nd rfl (by first | exact Or.inl rfl | exact Or.inr rfl)) pgs_nil)))) (fun _ _ _ _ _ => pts_nil) (fun _ _ _ _ _ => (pv 16))) pa_nil)) pa_nil)) (by rfl))
      (pss_cons (ps_setLc (i := 7) (own := [("low", 15)]) (tt := tYes) (te := (tOp (rI0 fun i j => .int (i - j)) (tCall (sp__law_draw K) [] E0 (tCons (tVar 1) (tCons (tC (.int 9)) tNil))) (tC (.int 9)))) rfl sc_law.nd rfl rfl (sw_true rfl rfl rfl (by decide +kernel)) (pi_list (pv 5)) (blkOk_by (N := ["script", "bag", "turn", "far", "some", "lows", "highs", "under", "over", "kept", "made", "k", "item", "two", "told", "low", "high", "bound"]) (sc := defScope s_law) (by decide +kernel)) (fun _ _ _ _ _ => (pg_name (i := 15) sc_law.nd rfl (by first | exact Or.inl rfl | exact Or.inr rfl))) (fun _ _ _ _ _ => pts_nil) (fun _ _ _ _ _ => (pe_op op_sub (pe_f (k__law_draw T) hr (pa_cons (pv 1) (pa_cons pe_int pa_nil))) pe_int)))
      (pss_cons (ps_setLc (i := 8) (own := [("bound", 17)]) (tt := tYes) (te := (tOp (rI0 fun i j => .int (i + j)) (tVar 17) (tCall (sp__law_draw K) [] E0 (tCons (tVar 1) (tCons (tVar 3) tNil))))) rfl sc_law.nd rfl rfl (sw_true rfl rfl rfl (by decide +kernel)) (pi_list (pv 7)) (blkOk_by (N := ["script", "bag", "turn", "far", "some", "lows", "highs", "under", "over", "kept", "made", "k", "item", "two", "told", "low", "high", "bound"]) (sc := defScope s_law) (by decide +kernel)) (fun _ _ _ _ _ => (pg_name (i := 17) sc_law.nd rfl (by first | exact Or.inl rfl | exact Or.inr rfl))) (fun _ _ _ _ _ => pts_nil) (fun _ _ _ _ _ => (pe_op op_add (pv 17) (pe_f (k__law_draw T) hr (pa_cons (pv 1) (pa_cons (pv 3) pa_nil))))))
      (pss_cons (ps_setLc (i := 9) (own := [("low", 15), ("high", 16)]) (tt := tYes) (g := (gTup K 2 (gCons (gName 15) (gCons (gName 16) gNil)))) (te := (tTup (tCons (tCB (rListX K) (tCons (tVar 15) tNil)) (tCons (tCB (rListX K) (tCons (tVar 16) tNil)) tNil)))) rfl sc_law.nd rfl rfl (sw_true rfl rfl rfl (by decide +kernel)) (pi_list (pv 4)) (blkOk_by (N := ["script", "bag", "turn", "far", "some", "lows", "highs", "under", "over", "kept", "made", "k", "item", "two", "told", "low", "high", "bound"]) (sc := defScope s_law) (by decide +kernel)) (fun _ _ _ _ _ => (pg_tup rfl (pgs_cons (pg_name (i := 15) sc_law.nd rfl (by first | exact Or.inl rfl | exact Or.inr rfl)) (pgs_cons (pg_name (i := 16) sc_law.nd rfl (by first | exact Or.inl rfl | exact Or.inr rfl)) pgs_nil)))) (fun _ _ _ _ _ => pts_nil) (fun _ _ _ _ _ => (pe_tup (pa_cons (pe_callTy call_list_of (by rfl) (T.fr 7) (by decide +kernel) (pa_cons (pv 15) pa_nil)) (pa_cons (pe_callTy call_list_of (by rfl) (T.fr 7) (by decide +kernel) (pa_cons (pv 16) pa_nil)) pa_nil)))))
      (pss_cons (ps_set (i := 10) sc_law.nd rfl (by first | exact Or.inl rfl | exact Or.inr rfl) (pe_f (k_joint T) hr (pa_cons (pv 4) (pa_cons (pv 7) (pa_cons (pv 8) pa_nil)))))
      (pss_cons (ps_if (PW.pt (pw_or (pt_cmpR (op_neP (k_Plan___eq__ T) (T.findB 42) (T.mroI 43) (hr.mono (by decide))) (pv 10) (pe_mk (k_Plan___init__ T) (T.glo 16) hr (pa_cons (pv 5) (pa_cons (pv 6) (pa_cons (pv 7) (pa_cons (pv 8) pa_nil))))) (nomark _)) (pw_or1 (pt_cmpR (op_neP (k_Plan___eq__ T) (T.findB 42) (T.mroI 43) (hr.mono (by decide))) (pe_fK (k_joint T) hr (kb_joint_most_least_streams) (kr_joint_most_least_streams) (pk_cons (pv 8) (pk_cons (pv 7) (pk_cons (pv 4) pk_nil)))) (pv 10) (nomark _))))) (pss_one (ps_ret pe_bl)) pss_nil)
      (pss_one (ps_for PassesOwn.never rfl (pi_range1 (by rfl) (T.fr 24) (pa_cons pe_int pa_nil)) (pg_name (i := 11) sc_law.nd rfl (by first | exact Or.inl rfl | exact Or.inr rfl)) (pss_cons (ps_set (i := 12) sc_law.nd rfl (by first | exact Or.inl rfl | exact Or.inr rfl) (pe_f (k__law_row T) hr (pa_cons (pv 1) (pa_cons (pv 5) (pa_cons (pv 6) pa_nil)))))
      (pss_one (ps_if (PW.pt (pw_or (pt_not (pt_val (pe_f (k__law_shares_right T) hr (pa_cons (pv 4) (pa_cons (pv 12) pa_nil))))) (pw_or1 (pt_cmpR (op_neD hr.units) (pv 4) (pv 9) (nomark _))))) (pss_one (ps_ret pe_bl)) pss_nil))))))))))))))
      (pss_cons (ps_set (i := 13) sc_law.nd rfl (by first | exact Or.inl rfl | exact Or.inr rfl) (pe_lst (pa_cons (pe_tup (pa_cons (pe_lst (pa_cons pe_int (pa_cons pe_int pa_nil))) (pa_cons (pe_lst (pa_cons pe_int (pa_cons pe_int pa_nil))) pa_nil))) (pa_cons (pe_tup (pa_cons (pe_lst (pa_cons pe_int (pa_cons pe_int pa_nil))) (pa_cons (pe_lst (pa_cons pe_int (pa_cons pe_int pa_nil))) pa_nil))) pa_nil))))
      (pss_cons (ps_set (i := 14) sc_law.nd rfl (by first | exact Or.inl rfl | exact Or.inr rfl) (pe_lst (pa_cons (pe_fK (k_shares T) hr (kb_shares_row_streams) (kr_shares_row_streams) (pk_cons (pe_lst (pa_cons pe_int (pa_cons pe_int pa_nil))) (pk_cons (pv 13) pk_nil))) (pa_cons (pe_f (k_shares T) hr (pa_cons (pv 13) (pa_cons (pe_lst (pa_cons pe_int (pa_cons pe_int pa_nil))) pa_nil))) (pa_cons (pe_pr (pe_f (k_joint T) hr (pa_cons (pv 13) (pa_cons (pe_lst (pa_cons pe_int (pa_cons pe_int pa_nil))) (pa_cons (pe_lst (pa_cons pe_int (pa_cons pe_int pa_nil))) pa_nil)))) (k_Plan_low T) hr) pa_nil)))))
      (pss_one (ps_ret (pe_f (k__law_alike T) hr (pa_cons (pv 14) (pa_cons (pe_lst (pa_cons (pe_lst (pa_cons (pe_lst (pa_cons pe_int (pa_cons pe_int pa_nil))) (pa_cons (pe_lst (pa_cons pe_int (pa_cons pe_int pa_nil))) pa_nil))) (pa_cons (pe_lst (pa_cons (pe_lst (pa_cons pe_int (pa_cons pe_int pa_nil))) (pa_cons (pe_lst (pa_cons pe_int (pa_cons pe_int pa_nil))) pa_nil))) (pa_cons (pe_lst (pa_cons pe_int (pa_cons pe_int pa_nil))) pa_nil)))) pa_nil))))))))), ?_⟩
    walk_at "ev0"
    refine ⟨a, ns, rfl, hs, hl, fun ls j H1 hj f1 J1 => ?_⟩
    walk_at "ev"
    refine ⟨by decide, by decide, ?_⟩
    refine for_it (walk_range (lo := 0) (n := 4)) (fun i σ H' => ∃ u2 u3 u4 u5 u6 u7 u8 u9 u10 u11 u12 : Option V, σ = [some (.ref a), some (.ref j), u2, u3, u4, u5, u6, u7, u8, u9, u10, u11, u12, none, none, none, none, none] ∧ JarAt ls H' j (20000 + 10000 * (4 - i))) ⟨_, _, _, _, _, _, _, _, _, _, _, rfl, J1.le (by decide)⟩ (fun _ _ _ _ _ => trivial) (fun i x σ H2 H2' hi p y => ?_) (fun σ H2 p => ?_)
    · obtain ⟨u2, u3, u4, u5, u6, u7, u8, u9, u10, u11, u12, rfl, J2⟩ := p
      obtain ⟨rfl, rfl⟩ := y
      have p100 : (2 : Int) ^ 100 * 100 < 2 ^ 1000 := by decide +kernel
      have p99 : (2 : Int) ^ 100 * 100 < 2 ^ 900 := by decide +kernel
      walk_at "ev"
      intro t1 k1
      have z1 := (ZJ.start J2).alloc (.lst [.int 5, .int (10 ^ Int.toNat 26)]) k1
      walk_at "ev"
      refine ⟨ls, j, 2, 20000 + 10000 * (4 - i) - 1, rfl, z1.jar.le (by omega), by decide, by decide, fun x2 H3 x0 x1 f3 q3 => ?_⟩
      have z2 := z1.dips f3 q3
      obtain ⟨far, efar, hfar⟩ := two_at (a := 5) (b := 10 ^ Int.toNat 26) x0 x1
      have bfar : 5 ≤ far ∧ far ≤ 2 ^ 100 := by
        rcases hfar with rfl | rfl
        · decide +kernel
        · decide +kernel
      clear hfar
      walk_at "ev"
      refine r_at efar ?_
      walk_at "ev"
      intro t2 k2
      have z3 := z2.alloc (.lst [.int 5, .int 40]) k2
      walk_at "ev"
      refine ⟨ls, j, 2, 20000 + 10000 * (4 - i) - 2, rfl, z3.jar.le (by omega), by decide, by decide, fun x4 H4 x0 x1 f4 q4 => ?_⟩
      have z4a := z3.dips f4 q4
      obtain ⟨mt, emt, hmt⟩ := two_at (a := 5) (b := 40) x0 x1
      walk_at "ev"
      refine r_at emt ?_
      have z4 := z4a.sub (E' := []) (List.nil_sublist _)
      walk_at "ev"
      refine ⟨ls, j, mt, far, 20000 + 10000 * (4 - i) - 6000, rfl, z4.jar.le (by omega), by omega, by omega, fun fd M tm H5 f5 q5 n5 ⟨m1, m2, m3, m4⟩ hM => ?_⟩
      have z5 := z4.call f5 q5 n5
      have z5 : ZJ ls H2' H5 j (20000 + 10000 * (4 - i) - 6000) ((2, fd, .lst (M.reverse.map fun q => V.ref q.1)) :: enS M) := by
        rw [List.append_nil] at z5
        exact z5
      have ok : SsOk tm (ssM M.reverse) := ssok_of (by rw [List.length_reverse]; exact m1) (by rw [List.length_reverse]; exact m2) m3 (by omega) fun q hq => hM q (List.mem_reverse.mp hq)
      have at_ : ∀ {H' : Hp} {n' : Nat} (E' : List En), ZJ ls H2' H' j n' (E' ++ (2, fd, .lst (M.reverse.map fun q => V.ref q.1)) :: enS M) → Sts H' (tsM M.reverse) (psM M.reverse) (ssM M.reverse) ∧ H' fd = some (.lst ((tsM M.reverse).map V.ref)) := fun E' z =>
        ⟨sts_of (M := M) (fun q hq => List.mem_reverse.mp hq) fun q hq => z.at_ q (List.mem_append_right _ (List.mem_cons_of_mem _ hq)), by rw [List.map_map]; exact z.get (List.mem_append_right _ List.mem_cons_self)⟩
      have wide : ∀ i, i < tm → nth (lowL (ssM M.reverse) tm 0) i ≤ nth ((List.range tm).map (highA (ssM M.reverse) 0)) i ∧ nth ((List.range tm).map (highA (ssM M.reverse) 0)) i ≤ nth (lowL (ssM M.reverse) tm 0) i + 2 ^ 900 := fun i hi => by
        have a1 := low_high ok hi (Nat.zero_le (ssM M.reverse).length)
        have a2 := sum_far (far := far) (by omega) (i := i) (N := ssM M.reverse) fun s hs => by
          obtain ⟨q, hq, rfl⟩ := List.mem_map.mp hs
          exact ((hM q (List.mem_reverse.mp hq)).2.2.1 i hi).2
        have a3 : ((ssM M.reverse).length : Int) * (3 * far) ≤ 20 * (3 * far) := Int.mul_le_mul_of_nonneg_right (by have := ok.most; omega) (by omega)
        unfold lowL
        rw [nth_range hi, nth_range hi]
        unfold lowA highA at *
        rw [List.drop_zero] at *
        omega
      have lt : (tsM M.reverse).length = (ssM M.reverse).length := by simp
      have ok1 := ok.one
      have ok2 := ok.most
      have ok4 := ok.n200
      clear z1 z2 z3 z4a z4 f3 q3 f4 q4 f5 q5 n5 efar emt x0 x1 k1 k2 J2
      generalize htt : tsM M.reverse = ts at *
      generalize hpp : psM M.reverse = ps at *
      generalize hss : ssM M.reverse = ss at *
      obtain ⟨st5, gfd5⟩ := at_ [] z5
      walk_at "ev"
      refine lc_pure (walk_list (xs := ts.map V.ref)) (fun k => .ref (ps.getD k (0, 0)).1) (by rw [List.length_map]; omega) (fun H' e => e.sql (SqL.of gfd5) nin) (fun i H' x H'' y => by rw [y.1]; exact Fr.refl _) (fun i x H' H'' R hi e y kR => ?_) (fun D1 H6 hD e hD' => ?_)
      · obtain ⟨rfl, hx⟩ := y
        rw [List.length_map, lt] at hi
        have et : ts[i]? = some ts[i] := List.getElem?_eq_getElem (by omega)
        rw [List.getElem?_map, et] at hx
        obtain rfl := Option.some.inj hx
        have g1 := (st5.mono e).tup i _ et
        walk_at "ev"
        refine ⟨rfl, ?_⟩
        walk_at "ev"
        exact kR _ (Fr.refl _)
      rw [List.length_map, lt] at hD'
      have z6 := z5.comp e hD hD'
      have gD6 := hD'
      obtain ⟨st6, gfd6⟩ := at_ [_] z6
      clear e hD hD'
      walk_at "ev"
      refine ⟨D1, (List.range ss.length).map fun k => (ps.getD k (0, 0)).1, ss.map (·.1), tm, rfl, by rw [List.map_map]; exact gD6, st6.lows, ⟨by rw [List.length_map]; omega, by rw [List.length_map]; omega, by omega, fun k hk => by rw [List.length_map] at hk; rw [getD1 hk]; exact ok.l1 k hk⟩, fun la H7 hla f7 gla => ?_⟩
      rw [col_low] at gla
      have z7 := z6.comp f7 hla gla
      obtain ⟨st7, gfd7⟩ := at_ [_, _] z7
      clear f7 hla gla
      walk_at "ev"
      refine lc_pure (walk_list (xs := ts.map V.ref)) (fun k => .ref (ps.getD k (0, 0)).2) (by rw [List.length_map]; omega) (fun H' e => e.sql (SqL.of gfd7) nin) (fun i H' x H'' y => by rw [y.1]; exact Fr.refl _) (fun i x H' H'' R hi e y kR => ?_) (fun D2 H8 hD e hD' => ?_)
      · obtain ⟨rfl, hx⟩ := y
        rw [List.length_map, lt] at hi
        have et : ts[i]? = some ts[i] := List.getElem?_eq_getElem (by omega)
        rw [List.getElem?_map, et] at hx
        obtain rfl := Option.some.inj hx
        have g1 := (st7.mono e).tup i _ et
        walk_at "ev"
        refine ⟨rfl, ?_⟩
        walk_at "ev"
        exact kR _ (Fr.refl _)
      rw [List.length_map, lt] at hD'
      have z8 := z7.comp e hD hD'
      have gD8 := hD'
      obtain ⟨st8, gfd8⟩ := at_ [_, _, _] z8
      clear e hD hD'
      walk_at "ev"
      refine ⟨D2, (List.range ss.length).map fun k => (ps.getD k (0, 0)).2, ss.map (·.2), tm, rfl, by rw [List.map_map]; exact gD8, st8.highs, ⟨by rw [List.length_map]; omega, by rw [List.length_map]; omega, by omega, fun k hk => by rw [List.length_map] at hk; rw [getD2 hk]; exact ok.l2 k hk⟩, fun ha H9 hha f9 gha => ?_⟩
      rw [col_high] at gha
      have z9 := (z8.comp f9 hha gha).sub (E' := (2, ha, .lst (((List.range tm).map (highA ss 0)).map V.int)) :: (2, la, .lst ((lowL ss tm 0).map V.int)) :: (2, fd, .lst (M.reverse.map fun q => V.ref q.1)) :: enS M) (.cons₂ _ (.cons _ (.cons₂ _ (.cons _ (List.Sublist.refl _)))))
      clear f9 hha gha z5 z6 z7 z8 st5 st6 st7 st8 gfd5 gfd6 gfd7 gfd8 gD6 gD8
      have ll : (lowL ss tm 0).length = tm := lowL_len
      have gla9 := z9.get (.tail _ (.head _))
      walk_at "ev"
      refine lc_drawX (xs := lowL ss tm 0) (m := 20000 + 10000 * (4 - i) - 6200) (fun _ v => -9 ≤ v ∧ v ≤ -1) (fun k H' E' z => SqL.of (z.get (List.mem_append_right _ (.tail _ (.head _))))) (by omega) (fun _ => rfl) (z9.le (by omega)) (fun i2 H' D ns R hi z kR => ?_) (fun un us H10 lus pus z10 => ?_)
      · walk_at "ev"
        refine ⟨ls, j, 9, 20000 + 10000 * (4 - i) - 6200 + ((lowL ss tm 0).length - i2) - 1, rfl, z.jar.le (by omega), by decide, by decide, fun x G x0 x1 f q => ?_⟩
        walk_at "ev"
        exact kR _ _ (by omega) ((z.dips f q).le (by omega))
      have gun := z10.get (.head _)
      walk_at "ev"
      refine lc_drawX (xs := us) (m := 20000 + 10000 * (4 - i) - 6400) (fun x v => x ≤ v) (fun k H' E' z => SqL.of (z.get (List.mem_append_right _ (.head _)))) (by omega) (fun _ => rfl) (z10.le (by omega)) (fun i2 H' D ns R hi z kR => ?_) (fun ov os H11 los pos z11 => ?_)
      · walk_at "ev"
        refine ⟨ls, j, far, 20000 + 10000 * (4 - i) - 6400 + (us.length - i2) - 1, rfl, z.jar.le (by omega), by omega, by omega, fun x G x0 x1 f q => ?_⟩
        walk_at "ev"
        exact kR _ _ (by omega) ((z.dips f q).le (by omega))
      obtain ⟨st11, gfd11⟩ := at_ [_, _, _, _] z11
      clear gun gla9 z9 z10
      walk_at "ev"
      refine lc_kept (walk_list (xs := ts.map V.ref)) (fun k => ss.getD k ([], [])) (by rw [List.length_map]; omega) (fun H' e => e.sql (SqL.of gfd11) nin) (fun i H' x H'' y => y.1) (fun i x H' R hi e y kR => ?_) (fun kd M2 H12 eM2 z12 => ?_)
      · obtain ⟨_, hx⟩ := y
        rw [List.length_map, lt] at hi
        have et : ts[i]? = some ts[i] := List.getElem?_eq_getElem (by omega)
        rw [List.getElem?_map, et] at hx
        obtain rfl : x = V.ref ts[i] := (Option.some.inj hx).symm
        have st1 := st11.mono e
        have g1 := st1.tup i _ et
        have g2 := st1.low i hi
        have g3 := st1.high i hi
        walk_at "ev"
        refine ⟨rfl, ?_⟩
        walk_at "ev"
        intro l kl
        have w1 := (Z.start0 H').alloc (.lst ((ss.getD i ([], [])).1.map V.int)) kl
        have g31 := w1.keep g3 (by simp)
        walk_at "ev"
        intro h kh
        have w2 := w1.alloc (.lst ((ss.getD i ([], [])).2.map V.int)) kh
        walk_at "ev"
        intro t kt
        have w3 := w2.alloc (.tup [.ref l, .ref h]) kt
        exact kR t l h _ (w3.fr0 (by simp)) (w3.pick [2, 1, 0] rfl)
      rw [List.length_map, lt] at eM2
      have eS : ssM M2.reverse = ss := by
        have e2 : ssM M2.reverse = (ssM M2).reverse := List.map_reverse
        rw [e2, eM2, List.reverse_reverse]
        refine List.ext_getElem? fun k => ?_
        by_cases h : k < ss.length
        · rw [List.getElem?_map, List.getElem?_range h, List.getElem?_eq_getElem h]
          show some (ss.getD k ([], [])) = _
          rw [List.getD_eq_getElem?_getD, List.getElem?_eq_getElem h]
          rfl
        · rw [List.getElem?_eq_none (by simp; omega), List.getElem?_eq_none (by omega)]
      have z13 := (z11.call0 (z12.fr0 enS_two) (z12.made (N := (kd, .lst (M2.reverse.map fun q => .ref q.1)) :: flatS M2) (List.Sublist.refl _))).perm List.perm_append_comm
      have at2 : ∀ {H' : Hp} {n' : Nat}, ZJ ls H2' H' j n' (((2, ov, .lst (os.map V.int)) :: (2, un, .lst (us.map V.int)) :: (2, ha, .lst (((List.range tm).map (highA ss 0)).map V.int)) :: (2, la, .lst ((lowL ss tm 0).map V.int)) :: (2, fd, .lst (M.reverse.map fun q => V.ref q.1)) :: enS M) ++ (((kd, .lst (M2.reverse.map fun q => .ref q.1)) :: flatS M2).map fun q => ((2, q.1, q.2) : En))) →
          Sts H' (tsM M2.reverse) (psM M2.reverse) ss ∧ H' kd = some (.lst ((tsM M2.reverse).map V.ref)) := fun z =>
        ⟨eS ▸ sts_of (M := M2) (fun q hq => List.mem_reverse.mp hq) fun q hq => z.at_ q (List.mem_append_right _ (List.mem_cons_of_mem _ hq)), by rw [List.map_map]; exact z.get (List.mem_append_right _ List.mem_cons_self)⟩
      have at1 : ∀ {H' : Hp} {n' : Nat}, ZJ ls H2' H' j n' (((2, ov, .lst (os.map V.int)) :: (2, un, .lst (us.map V.int)) :: (2, ha, .lst (((List.range tm).map (highA ss 0)).map V.int)) :: (2, la, .lst ((lowL ss tm 0).map V.int)) :: (2, fd, .lst (M.reverse.map fun q => V.ref q.1)) :: enS M) ++ (((kd, .lst (M2.reverse.map fun q => .ref q.1)) :: flatS M2).map fun q => ((2, q.1, q.2) : En))) →
          Sts H' ts ps ss ∧ H' fd = some (.lst (ts.map V.ref)) := fun z => at_ [_, _, _, _] (z.sub (List.sublist_append_left _ _))
      obtain ⟨st12, gfd12⟩ := at1 z13
      have gla := z13.get (.tail _ (.tail _ (.tail _ (.head _))))
      have gha := z13.get (.tail _ (.tail _ (.head _)))
      have gun := z13.get (.tail _ (.head _))
      have gov := z13.get (.head _)
      have jok := joint_ok ok (as := us) (bs := os) (by omega) (by omega) fun i hi => pos i (by omega)
      clear z12 z11 st11 gfd11
      walk_at "ev"
      refine ⟨fd, un, ov, ts, ps, ss, tm, us, os, rfl, gfd12, st12, ok, gun, gov, ⟨by omega, by omega, fun i hi => pos i (by omega)⟩, fun mp H15 f15 pm => ?_⟩
      have gla5 := f15 _ _ nin gla
      have gha5 := f15 _ _ nin gha
      have gun5 := f15 _ _ nin gun
      have gov5 := f15 _ _ nin gov
      walk_at "ev"
      refine r_planA (d := jointPD tm ss us os) jok gla5 gha5 gun5 gov5 fun pq H16 f16 n16 => ?_
      refine r_neP (pm.mono f16) n16.at ?_
      rw [decide_eq_true rfl]
      have f56 := f15.trans f16
      walk_at "ev"
      refine ⟨rfl, fd, un, ov, ts, ps, ss, tm, us, os, rfl, f56 _ _ nin gfd12, st12.mono f56, ok, f56 _ _ nin gun, f56 _ _ nin gov, ⟨by omega, by omega, fun i hi => pos i (by omega)⟩, fun mp2 H17 f17 pm2 => ?_⟩
      walk_at "ev"
      refine r_neP pm2 ((pm.mono f16).mono f17) ?_
      rw [decide_eq_true rfl]
      have z17 := z13.same (f56.trans f17)
      clear z13 gla gha gun gov gla5 gha5 gun5 gov5 f56 f17 f16 f15 n16 pm2 pm st12 gfd12
      walk_at "ev"
      refine ⟨by decide, by decide, ?_⟩
      refine for_it (walk_range (lo := 0) (n := 3)) (fun i3 σ H' => ∃ u11 u12 : Option V, σ = [some (.ref a), some (.ref j), some (.int (0 + (i : Int))), some (.int far), some (.ref fd), some (.ref la), some (.ref ha), some (.ref un), some (.ref ov), some (.ref kd), some (.ref mp), u11, u12, none, none, none, none, none] ∧
        ZJ ls H2' H' j (20000 + 10000 * (4 - i) - 6400 - 600 * i3) (((2, ov, .lst (os.map V.int)) :: (2, un, .lst (us.map V.int)) :: (2, ha, .lst (((List.range tm).map (highA ss 0)).map V.int)) :: (2, la, .lst ((lowL ss tm 0).map V.int)) :: (2, fd, .lst (M.reverse.map fun q => V.ref q.1)) :: enS M) ++ (((kd, .lst (M2.reverse.map fun q => .ref q.1)) :: flatS M2).map fun q => ((2, q.1, q.2) : En)))) ⟨_, _, rfl, z17⟩ (fun _ _ _ _ _ => trivial) (fun i3 x σ H3 H3' hi3 p y => ?_) (fun σ H3 p => ?_)
      · obtain ⟨u11, u12, rfl, z⟩ := p
        obtain ⟨rfl, rfl⟩ := y
        have gla := z.get (.tail _ (.tail _ (.tail _ (.head _))))
        have gha := z.get (.tail _ (.tail _ (.head _)))
        have lhi : ((List.range tm).map (highA ss 0)).length = tm := by simp
        walk_at "ev"
        refine ⟨ls, j, la, ha, lowL ss tm 0, (List.range tm).map (highA ss 0), 20000 + 10000 * (4 - i) - 6400 - 600 * i3 - 600, rfl, z.jar.le (by omega), ⟨gla, z.ne _ (.tail _ (.tail _ (.tail _ (.head _))))⟩, ⟨gha, z.ne _ (.tail _ (.tail _ (.head _)))⟩, ⟨by omega, by omega, by omega, fun i hi => wide i (by omega)⟩, fun it ns2 H18 hit f18 J18 git ⟨ln2, bn2⟩ => ?_⟩
        have z18 := z.dips f18 J18
        obtain ⟨st18, gfd18⟩ := at1 z18
        walk_at "ev"
        refine ⟨fd, it, ts, ps, ss, tm, ns2, rfl, gfd18, st18, ok, git, ⟨by omega, fun i hi => by
          have q := bn2 i (by omega)
          unfold lowL at q
          rw [nth_range hi, nth_range hi] at q
          exact q⟩, fun H19 f19 => ?_⟩
        have z19 := z18.same f19
        obtain ⟨st19, gfd19⟩ := at1 z19
        obtain ⟨st20, gkd⟩ := at2 z19
        walk_at "ev"
        refine r_neSS gfd19 gkd st19 st20 ?_
        walk_at "ev"
        exact ⟨_, _, rfl, z19.le (by omega)⟩
      · obtain ⟨u11, u12, rfl, z⟩ := p
        exact ⟨_, _, _, _, _, _, _, _, _, _, _, rfl, z.jar.le (by omega)⟩
    · obtain ⟨u2, u3, u4, u5, u6, u7, u8, u9, u10, u11, u12, rfl, J2⟩ := p
      walk_at "ev"
      intro a1 k1
      have z1 := (Z.start0 H2).alloc (.lst (([0, 4] : List Int).map V.int)) k1
      walk_at "ev"
      intro a2 k2
      have z2 := z1.alloc (.lst (([4, 4] : List Int).map V.int)) k2
      walk_at "ev"
      intro t1 kt1
      have z3 := z2.alloc (.tup [.ref a1, .ref a2]) kt1
      walk_at "ev"
      intro a3 k3
      have z4 := z3.alloc (.lst (([4, 4] : List Int).map V.int)) k3
      walk_at "ev"
      intro a4 k4
      have z5 := z4.alloc (.lst (([4, 4] : List Int).map V.int)) k4
      walk_at "ev"
      intro t2 kt2
      have z6 := z5.alloc (.tup [.ref a3, .ref a4]) kt2
      walk_at "ev"
      intro tw ktw
      have z7 := z6.alloc (.lst [.ref t1, .ref t2]) ktw
      have gtw := z7.get (.head _)
      have st := sts_of (M := [(t1, a1, a2, [0, 4], [4, 4]), (t2, a3, a4, [4, 4], [4, 4])]) (N := [(t1, a1, a2, [0, 4], [4, 4]), (t2, a3, a4, [4, 4], [4, 4])]) (fun _ h => h) fun q hq => z7.at_ q (List.mem_cons_of_mem _ (List.mem_reverse.mp hq))
      have ok2 : SsOk 2 [([0, 4], [4, 4]), ([4, 4], [4, 4])] := ⟨by decide, by decide, by decide, by decide, by decide, by decide, by decide +kernel, by decide +kernel⟩
      clear z1 z2 z3 z4 z5 z6 z7 k1 k2 k3 k4 kt1 kt2
      walk_at "ev"
      intro r1 kr1
      have y1 := (Z.start0 _).alloc (.lst (([6, 2] : List Int).map V.int)) kr1
      have f1 := y1.fr0 (by simp)
      walk_at "ev"
      refine ⟨rfl, tw, r1, [t1, t2], [(a1, a2), (a3, a4)], [([0, 4], [4, 4]), ([4, 4], [4, 4])], 2, [6, 2], rfl, f1 _ _ nin gtw, st.mono f1, ok2, y1.get (.head _), ⟨rfl, by decide +kernel⟩, fun D1 M1 H3 e1 y3 => ?_⟩
      obtain ⟨b1, b0, rfl⟩ := two_of (e1.trans (show _ = [[4, 0], [2, 2]] by decide +kernel))
      have f3 := f1.trans (y3.fr0 th1)
      have gD1 := y3.get (.head _)
      have gb0 := enM_at y3 _ (.tail _ (.head _))
      have gb1 := enM_at y3 _ (.head _)
      clear y1 y3 e1 kr1 f1
      walk_at "ev"
      intro r2 kr2
      have y1 := (Z.start0 _).alloc (.lst (([4, 4] : List Int).map V.int)) kr2
      have f4 := f3.trans (y1.fr0 (by simp))
      walk_at "ev"
      refine ⟨tw, r2, [t1, t2], [(a1, a2), (a3, a4)], [([0, 4], [4, 4]), ([4, 4], [4, 4])], 2, [4, 4], rfl, f4 _ _ nin gtw, st.mono f4, ok2, y1.get (.head _), ⟨rfl, by decide +kernel⟩, fun D2 M2 H5 e2 y5 => ?_⟩
      obtain ⟨c1, c0, rfl⟩ := two_of (e2.trans (show _ = [[4, 0], [0, 4]] by decide +kernel))
      have f35 := (y1.fr0 (by simp)).trans (y5.fr0 th1)
      have f5 := f3.trans f35
      have gD2 := y5.get (.head _)
      have gc0 := enM_at y5 _ (.tail _ (.head _))
      have gc1 := enM_at y5 _ (.head _)
      have gD15 := f35 _ _ nin gD1
      have gb05 := f35 _ _ nin gb0
      have gb15 := f35 _ _ nin gb1
      clear y1 y5 e2 kr2 f4 f3 f35 gD1 gb0 gb1
      walk_at "ev"
      intro x1 kx1
      have y1 := (Z.start0 H5).alloc (.lst (([0, 0] : List Int).map V.int)) kx1
      walk_at "ev"
      intro x2 kx2
      have y2 := y1.alloc (.lst (([9, 9] : List Int).map V.int)) kx2
      have f6 := f5.trans (y2.fr0 (by simp))
      walk_at "ev"
      refine ⟨tw, x1, x2, [t1, t2], [(a1, a2), (a3, a4)], [([0, 4], [4, 4]), ([4, 4], [4, 4])], 2, [0, 0], [9, 9], rfl, f6 _ _ nin gtw, st.mono f6, ok2, y2.get (.tail _ (.head _)), y2.get (.head _), ⟨rfl, rfl, by decide +kernel⟩, fun p H7 f7 pd => ?_⟩
      have y7 := (y2.same f7).sub (E' := []) (List.nil_sublist _) (by simp)
      walk_at "ev"
      refine r_pl pd fun lo klo => ?_
      have y8 := y7.alloc (.lst (([4, 8] : List Int).map V.int)) klo
      rw [show (jointPD 2 [([0, 4], [4, 4]), ([4, 4], [4, 4])] [0, 0] [9, 9]).L = [4, 8] by decide +kernel]
      walk_at "ev"
      intro tl ktl
      have y9 := y8.alloc (.lst [.ref D1, .ref D2, .ref lo]) ktl
      walk_at "ev"
      intro d1 kd1
      have y10 := y9.alloc (.lst (([2, 2] : List Int).map V.int)) kd1
      walk_at "ev"
      intro d2 kd2
      have y11 := y10.alloc (.lst (([4, 0] : List Int).map V.int)) kd2
      walk_at "ev"
      intro d3 kd3
      have y12 := y11.alloc (.lst [.ref d1, .ref d2]) kd3
      walk_at "ev"
      intro d4 kd4
      have y13 := y12.alloc (.lst (([0, 4] : List Int).map V.int)) kd4
      walk_at "ev"
      intro d5 kd5
      have y14 := y13.alloc (.lst (([4, 0] : List Int).map V.int)) kd5
      walk_at "ev"
      intro d6 kd6
      have y15 := y14.alloc (.lst [.ref d4, .ref d5]) kd6
      walk_at "ev"
      intro d7 kd7
      have y16 := y15.alloc (.lst (([4, 8] : List Int).map V.int)) kd7
      walk_at "ev"
      intro d8 kd8
      have y17 := y16.alloc (.lst [.ref d3, .ref d6, .ref d7]) kd8
      have ak1 : ∀ (m : Nat) (xs : List Int), xs.length ≤ 10000 → Ak (m + 1) (.lst (xs.map Od.int)) := fun m xs l => .lst (by rw [List.length_map]; exact l) fun d h => by
        obtain ⟨i, _, rfl⟩ := List.mem_map.mp h
        exact .int i
      have mem2 : ∀ {b c : Od} {R : Od → Prop}, R b → R c → ∀ d ∈ [b, c], R d := fun hb hc d h => by
        rcases List.mem_cons.mp h with rfl | h
        · exact hb
        · rw [List.mem_singleton.mp h]
          exact hc
      have mem3 : ∀ {b c e : Od} {R : Od → Prop}, R b → R c → R e → ∀ d ∈ [b, c, e], R d := fun hb hc he d h => by
        rcases List.mem_cons.mp h with rfl | h
        · exact hb
        · exact mem2 hc he d h
      refine ⟨.ref tl, .ref d8, .lst [.lst [.lst (([2, 2] : List Int).map Od.int), .lst (([4, 0] : List Int).map Od.int)], .lst [.lst (([0, 4] : List Int).map Od.int), .lst (([4, 0] : List Int).map Od.int)], .lst (([4, 8] : List Int).map Od.int)], rfl, ?_, ?_, ?_, fun H' _ => k H'⟩
      · exact .lst (y17.get (.tail _ (.tail _ (.tail _ (.tail _ (.tail _ (.tail _ (.tail _ (.tail _ (.head _))))))))))
          (.cons (.lst (y17.keep gD15 (by simp)) (.cons (.lst (y17.keep gb05 (by simp)) (oall_ints _)) (.cons (.lst (y17.keep gb15 (by simp)) (oall_ints _)) .nil)))
          (.cons (.lst (y17.keep gD2 (by simp)) (.cons (.lst (y17.keep gc0 (by simp)) (oall_ints _)) (.cons (.lst (y17.keep gc1 (by simp)) (oall_ints _)) .nil)))
          (.cons (.lst (y17.get (.tail _ (.tail _ (.tail _ (.tail _ (.tail _ (.tail _ (.tail _ (.tail _ (.tail _ (.head _))))))))))) (oall_ints _)) .nil)))
      · exact .lst (y17.get (.head _))
          (.cons (.lst (y17.get (.tail _ (.tail _ (.tail _ (.tail _ (.tail _ (.head _))))))) (.cons (.lst (y17.get (.tail _ (.tail _ (.tail _ (.tail _ (.tail _ (.tail _ (.tail _ (.head _))))))))) (oall_ints _)) (.cons (.lst (y17.get (.tail _ (.tail _ (.tail _ (.tail _ (.tail _ (.tail _ (.head _)))))))) (oall_ints _)) .nil)))
          (.cons (.lst (y17.get (.tail _ (.tail _ (.head _)))) (.cons (.lst (y17.get (.tail _ (.tail _ (.tail _ (.tail _ (.head _)))))) (oall_ints _)) (.cons (.lst (y17.get (.tail _ (.tail _ (.tail _ (.head _))))) (oall_ints _)) .nil)))
          (.cons (.lst (y17.get (.tail _ (.head _))) (oall_ints _)) .nil)))
      · exact .lst (by decide) (mem3 (.lst (by decide) (mem2 (ak1 _ _ (by decide)) (ak1 _ _ (by decide)))) (.lst (by decide) (mem2 (ak1 _ _ (by decide)) (ak1 _ _ (by decide)))) (ak1 _ _ (by decide)))
end
set_option Elab.async false
set_option linter.all false
set_option maxRecDepth 100000
set_option maxHeartbeats 0
theorem law_facts {P : Program} {w : World} {K : PySem.W.Frag} {h : Heap} {mg : Str → Option Value} {f : Addr} (X : K.In h) (G : h.Ns mainGlobals mg) (hfa : mg ("law" : Str) = some (.ref f)) (c : SaysM fa fn K) :
    ∃ fd : FuncData, (∀ (s : Shared) (v : Value), BindsTo s fd ⟨[v], []⟩ [("script", v)]) ∧ ∀ base : Heap, K.In base → base.Ns mainGlobals mg → FnOk P w K mg base CX0 7 f fd ["script"] (sp_law K) := by
  obtain ⟨f0, fd0, F0, g0, _, b0, fu0⟩ := (k_law (P := P) (w := w) (⟨c, X, G⟩ : Tx fa fn K mg h)).ex
  obtain rfl : f0 = f := by
    have e := g0.symm.trans hfa
    cases e
    rfl
  have b := FunD.bindsA (ps := ["script"]) fu0 fun _ _ _ _ _ _ us hl => match us, hl with | [_], _ => rfl
  refine ⟨fd0, fun s v => b s [v] rfl, fun bs hX hG => ?_⟩
  obtain ⟨f1, fd1, F1, g1, _, _, fu1⟩ := (k_law (P := P) (w := w) (⟨c, hX, hG⟩ : Tx fa fn K mg bs)).ex
  obtain rfl : f1 = f0 := by
    have e := g1.symm.trans hfa
    cases e
    rfl
  obtain ⟨_, _, _, _, _, _, _, _, _, _, _, lk0, _⟩ := fu0.ex
  obtain ⟨_, _, _, _, _, _, _, _, _, _, _, lk1, _⟩ := fu1.ex
  obtain rfl : fd1 = fd0 := by
    have e := lk1.symm.trans lk0
    cases e
    rfl
  exact F1
end Ev
open PySem PySem.W PySem.Calls PyProof.Rows
theorem PySem.Challenge.cw_evenbits_k54_joint_plans_and_shares_holds : PySem.Challenge.rw_evenbits_k54_joint_plans_and_shares.Holds := by
  w_on; o_law
  refine HandSHeadRun.head_any (r := OpenLaw.row PySem.Challenge.rw_evenbits_k54_joint_plans_and_shares) (q := view (OpenLaw.row PySem.Challenge.rw_evenbits_k54_joint_plans_and_shares).prog [36]) (H := Ev.hk) (ob := Ev.ob) (M := 9000)
    (loose := ("_wall" :: "__name__" :: "MOST_TIMES" :: "is_whole" :: "is_whole_list" :: "is_at_most" :: "sums_from_zero" :: "EvenError" :: "InvalidPlan" :: "InvalidRow" :: "InvalidNumber" :: "InvalidStreams" :: "Plan" :: "sums_of" :: "entries_of" :: "MOST_STREAMS" :: "joint" :: "shares" :: "_check_streams" :: "_is_stream" :: "_joint_bounds" :: "_added" :: "_law_bag" :: "_law_stirred" :: "_law_draw" :: "_law_alike" :: "_law_sums" :: "_law_streams" :: "_law_added" :: "_law_row" :: "_law_shares_right" :: ([] : List PySem.Str))) (d := HandSHeadRun.topDef (OpenLaw.row PySem.Challenge.rw_evenbits_k54_joint_plans_and_shares).prog 36) (kwd := []) Ev.ob_eq
    (by kernel_rfl) (fun s => by kernel_rfl) Ev.run (by kernel_rfl) (by kernel_rfl) (by kernel_rfl) (by rfl) (by first | assumption | decide +kernel) (by decide +kernel) ⟨rfl, rfl, rfl, rfl, rfl, by decide +kernel⟩ ?hw ?hc
  case hw => w_witness2
  case hc =>
    refine L2.walk_ofE (l := PySem.Challenge.rw_evenbits_k54_joint_plans_and_shares) (n := 63) (k := 7) (x := "script") (CX := L2.CX0) rfl (by decide) (by kernel_rfl) ⟨rfl, by decide, by decide⟩ ?F (fun _ _ _ _ z => z)
    intro w mg fa h Y G hmg0
    obtain ⟨K, KX, c⟩ := Y
    have hmg : mg ("law" : PySem.Str) = some (.ref fa) := by
      have e : (HandSHeadRun.topDef (OpenLaw.row PySem.Challenge.rw_evenbits_k54_joint_plans_and_shares).prog 36).name = ("law" : PySem.Str) := by kernel_rfl
      rw [← e]
      exact hmg0
    obtain ⟨fd, hb, hF⟩ := Ev.law_facts (P := (PySem.Challenge.rw_evenbits_k54_joint_plans_and_shares).prog) (w := w) KX G hmg c
    exact ⟨K, fd, Ev.sp_law K, KX, hb, fun H a ns hl _ hS => ⟨a, ns, rfl, hS, hl, fun _ => rfl⟩, hF⟩
