import PyProof.Rows.All
import Wide.All
import OpenK.AllK
import Wide.FinOn
import HandS.ForMost
import HandS.Flow
import HandS.Style
import HandS.Wide
import HandS.IsInst
import HandS.Property
import HandS.Defaults
import HandS.HeadHook2
import HandS.HeadNt
import HandS.MakeKw
import HandS.Walk
import PyProof.InstNe
import KE.GoesEnumKw
import HandS.Iter
import HandS.Flt
import HandS.TryOnly
import HandS.Ends
import PyProof.ReprRoads
import HandS.Zip
import KE.KDictZip
import HandS.SortKw
import HandS.Star
import HandS.SortRule
import PySem.Challenge.RW_evenbits_k44_room_and_needless_bounds_by
import Lean
import KE.KStateDown
import HandS.Head0
import HandS.Head1
import HandS.Head2
import HandS.HeadEnd
import HandS.WideBits
import KE.KEqDeep
import HandS.Evl
import PyProof.ReprLen
import HandS.Comp
import HandS.Deep
set_option Elab.async false
set_option linter.all false
set_option maxRecDepth 100000
set_option maxHeartbeats 4000000
namespace Ev
open PySem PySem.Spec PyProof.Rows L2
def Fr (J : List Addr) (H H' : Hp) : Prop := ∀ a o, a ∉ J → H a = some o → H' a = some o
theorem Fr.refl {J : List Addr} (H : Hp) : Fr J H H := fun _ _ _ h => h
theorem Fr.trans {J : List Addr} {H H1 H2 : Hp} (a : Fr J H H1) (b : Fr J H1 H2) : Fr J H H2 := fun x o hx h => b x o hx (a x o hx h)
theorem Fr.up {J J' : List Addr} {H H1 : Hp} (a : Fr J H H1) (s : ∀ x, x ∈ J → x ∈ J') : Fr J' H H1 := fun x o hx h => a x o (fun z => hx (s x z)) h
theorem Fr.up0 {J : List Addr} {H H1 : Hp} (a : Fr [] H H1) : Fr J H H1 := a.up fun _ z => nomatch z
theorem Fr.new {J : List Addr} {H H1 : Hp} {p : Addr} {o : HO} (a : Fr J H H1) (hp : H1 p = none) : Fr J H (upd H1 p o) := fun x u hx h => by
  have h1 := a x u hx h
  rw [upd_ne (ne_of_none h1 hp)]
  exact h1
theorem Fr.get {J : List Addr} {H H1 : Hp} (a : Fr J H H1) {x : Addr} {o : HO} (h : H x = some o) (hx : x ∉ J) : H1 x = some o := a x o hx h
theorem Fr.sql {J : List Addr} {K : PySem.W.Frag} {H H1 : Hp} (a : Fr J H H1) {x : Addr} {xs : List V} (h : SqL K H x xs) (hx : x ∉ J) : SqL K H1 x xs := by
  rcases h with (h | ⟨o, h⟩) | h
  · exact .inl (.inl (a x _ hx h))
  · exact .inl (.inr ⟨o, a x _ hx h⟩)
  · exact .inr h
theorem Fr.sqt {J : List Addr} {K : PySem.W.Frag} {H H1 : Hp} (a : Fr J H H1) {x : Addr} {xs : List V} (h : SqT K H x xs) (hx : x ∉ J) : SqT K H1 x xs := by
  rcases h with (h | ⟨o, h⟩) | h
  · exact .inl (.inl (a x _ hx h))
  · exact .inl (.inr ⟨o, a x _ hx h⟩)
  · exact .inr h
/-- the addresses of a list of entries -/
def HL (H : Hp) (N : List (Addr × HO)) : Prop := (N.map (·.1)).Nodup ∧ ∀ q ∈ N, H q.1 = some q.2
def New (H H' : Hp) (N : List (Addr × HO)) : Prop := HL H' N ∧ ∀ q ∈ N, H q.1 = none
abbrev En := Nat × Addr × HO
/-- entries: 0 stood at the entry and stays, 1 stood at the entry and may change, 2 is new -/
structure Z (H0 H : Hp) (E : List En) : Prop where
  nd : (E.map (·.2.1)).Nodup
  at_ : ∀ q ∈ E, H q.2.1 = some q.2.2
  fresh : ∀ q ∈ E, q.1 = 2 → H0 q.2.1 = none
  fr : ∀ a o, (∀ q ∈ E, q.1 = 1 → q.2.1 ≠ a) → H0 a = some o → H a = some o
section
variable {H0 H H' : Hp} {E : List En}
theorem Z.get (z : Z H0 H E) {t : Nat} {a : Addr} {o : HO} (h : (t, a, o) ∈ E) : H a = some o := z.at_ _ h
theorem Z.start0 (H : Hp) : Z H H [] := ⟨List.nodup_nil, (fun _ h => nomatch h), (fun _ h => nomatch h), fun _ _ _ h => h⟩
theorem Z.old (z : Z H0 H E) {a : Addr} {o : HO} (t : Nat) (ht : t ≠ 2) (h : H a = some o) (hn : ∀ q ∈ E, q.2.1 ≠ a) : Z H0 H ((t, a, o) :: E) :=
  ⟨by
    rw [List.map_cons, List.nodup_cons]
    refine ⟨fun m => ?_, z.nd⟩
    obtain ⟨q, hq, e⟩ := List.mem_map.mp m
    exact hn q hq e,
  fun q hq => by
    rcases List.mem_cons.mp hq with rfl | hq
    · exact h
    · exact z.at_ q hq,
  fun q hq e => by
    rcases List.mem_cons.mp hq with rfl | hq
    · exact absurd e ht
    · exact z.fresh q hq e,
  fun b u hb h' => z.fr b u (fun q hq => hb q (List.mem_cons_of_mem _ hq)) h'⟩
theorem Z.new (z : Z H0 H E) {p : Addr} {o : HO} (hp : H p = none) (h0 : H0 p = none) : Z H0 (upd H p o) ((2, p, o) :: E) := by
  have hn : ∀ q ∈ E, q.2.1 ≠ p := fun q hq => ne_of_none (z.at_ q hq) hp
  refine ⟨?_, fun q hq => ?_, fun q hq e => ?_, fun b u hb h' => ?_⟩
  · rw [List.map_cons, List.nodup_cons]
    refine ⟨fun m => ?_, z.nd⟩
    obtain ⟨q, hq, e⟩ := List.mem_map.mp m
    exact hn q hq e
  · rcases List.mem_cons.mp hq with rfl | hq
    · exact upd_same
    · rw [upd_ne (hn q hq)]
      exact z.at_ q hq
  · rcases List.mem_cons.mp hq with rfl | hq
    · exact h0
    · exact z.fresh q hq e
  · have h1 := z.fr b u (fun q hq => hb q (List.mem_cons_of_mem _ hq)) h'
    rw [upd_ne (ne_of_none h1 hp)]
    exact h1
/-- new at the heap is new at the entry's, as long as all that may change is known -/
theorem Z.none (z : Z H0 H E) {p : Addr} (hp : H p = none) : H0 p = none := by
  cases e : H0 p with
  | none => rfl
  | some o =>
    have h1 := z.fr p o (fun q hq _ => ne_of_none (z.at_ q hq) hp) e
    rw [hp] at h1
    cases h1
theorem Z.alloc (z : Z H0 H E) {p : Addr} (o : HO) (hp : H p = Option.none) : Z H0 (upd H p o) ((2, p, o) :: E) := z.new hp (z.none hp)
theorem mem_set_of {α : Type} {l : List α} {i : Nat} {x y : α} (h : y ∈ l.set i x) : y = x ∨ ∃ j, j ≠ i ∧ l[j]? = some y := by
  obtain ⟨j, hj, e⟩ := List.mem_iff_getElem.mp h
  rw [List.getElem_set] at e
  by_cases hij : i = j
  · rw [if_pos hij] at e
    exact .inl e.symm
  · rw [if_neg hij] at e
    refine .inr ⟨j, fun z => hij z.symm, ?_⟩
    rw [List.getElem?_eq_getElem (by rw [List.length_set] at hj; exact hj), e]
theorem Z.other (z : Z H0 H E) {i j : Nat} {q r : En} (hi : E[i]? = some q) (hj : E[j]? = some r) (h : j ≠ i) : r.2.1 ≠ q.2.1 := fun e => by
  have h1 : (E.map (·.2.1))[i]? = some q.2.1 := by rw [List.getElem?_map, hi] <;> rfl
  have h2 : (E.map (·.2.1))[j]? = some r.2.1 := by rw [List.getElem?_map, hj] <;> rfl
  rw [e] at h2
  obtain ⟨g1, e1⟩ := List.getElem?_eq_some_iff.mp h1
  obtain ⟨g2, e2⟩ := List.getElem?_eq_some_iff.mp h2
  exact h ((List.getElem_inj z.nd).mp (e2.trans e1.symm))
theorem map_set_same {i : Nat} {t : Nat} {a : Addr} {o o' : HO} (h : E[i]? = some (t, a, o)) : (E.set i (t, a, o')).map (·.2.1) = E.map (·.2.1) := by
  rw [List.map_set]
  have h1 : (E.map (·.2.1))[i]? = some a := by rw [List.getElem?_map, h] <;> rfl
  obtain ⟨g1, e1⟩ := List.getElem?_eq_some_iff.mp h1
  refine List.ext_getElem (by simp) fun k k1 k2 => ?_
  rw [List.getElem_set]
  split
  · rename_i e
    subst e
    exact e1.symm
  · rfl
/-- the heap changed at the i-th entry alone -/
theorem Z.move (z : Z H0 H E) (i : Nat) {t : Nat} {a : Addr} {o o' : HO} (hi : E[i]? = some (t, a, o)) (ht : t = 1 ∨ t = 2) (ha : H' a = some o') (f : Fr [a] H H') : Z H0 H' (E.set i (t, a, o')) := by
  have hin := List.mem_of_getElem? hi
  refine ⟨?_, fun q hq => ?_, fun q hq e => ?_, fun b u hb h' => ?_⟩
  · rw [map_set_same hi]
    exact z.nd
  · rcases mem_set_of hq with rfl | ⟨j, hj, e⟩
    · exact ha
    · exact f _ _ (by
        intro m
        rcases List.mem_cons.mp m with m | m
        · exact z.other hi e hj m
        · cases m) (z.at_ q (List.mem_of_getElem? e))
  · rcases mem_set_of hq with rfl | ⟨j, hj, e2⟩
    · exact z.fresh (t, a, o) hin e
    · exact z.fresh q (List.mem_of_getElem? e2) e
  · have hba : b ≠ a := fun e => by
      subst e
      rcases ht with rfl | rfl
      · exact hb (1, b, o') (List.mem_iff_getElem?.mpr ⟨i, by rw [List.getElem?_set_self (List.getElem?_eq_some_iff.mp hi).1]⟩) rfl rfl
      · have := z.fresh _ hin rfl
        rw [h'] at this
        cases this
    have h1 := z.fr b u (fun q hq e1 e2 => by
      obtain ⟨j, hj⟩ := List.mem_iff_getElem?.mp hq
      by_cases hji : j = i
      · subst hji
        rw [hi] at hj
        cases hj
        exact hba e2.symm
      · exact hb q (List.mem_iff_getElem?.mpr ⟨j, by rw [List.getElem?_set_ne (Ne.symm hji)]; exact hj⟩) e1 e2) h'
    exact f b u (fun m => by
      rcases List.mem_cons.mp m with m | m
      · exact hba m
      · cases m) h1
theorem Z.set (z : Z H0 H E) (i : Nat) {t : Nat} {a : Addr} {o : HO} (o' : HO) (hi : E[i]? = some (t, a, o)) (ht : t = 1 ∨ t = 2) : Z H0 (upd H a o') (E.set i (t, a, o')) :=
  z.move i hi ht upd_same fun b u hb h => by
    rw [upd_ne (fun e => hb (by rw [e]; exact List.mem_cons_self))]
    exact h
theorem Z.same (z : Z H0 H E) (f : Fr [] H H') : Z H0 H' E := ⟨z.nd, fun q hq => f _ _ (fun m => nomatch m) (z.at_ q hq), z.fresh, fun a o ha h => f _ _ (fun m => nomatch m) (z.fr a o ha h)⟩
/-- what came new -/
theorem Z.adds (z : Z H0 H' E) {N : List (Addr × HO)} (n : HL H' N) (h0 : ∀ q ∈ N, H0 q.1 = Option.none) (hd : ∀ q ∈ N, ∀ e ∈ E, e.2.1 ≠ q.1) : Z H0 H' (N.map (fun q => ((2, q.1, q.2) : En)) ++ E) := by
  refine ⟨?_, fun q hq => ?_, fun q hq e => ?_, fun b u hb h' => ?_⟩
  · rw [List.map_append, List.nodup_append]
    refine ⟨?_, z.nd, fun x hx y hy e => ?_⟩
    · have e : (N.map (fun q => ((2, q.1, q.2) : En))).map (·.2.1) = N.map (·.1) := by rw [List.map_map]; rfl
      rw [e]
      exact n.1
    · obtain ⟨q, hq, rfl⟩ := List.mem_map.mp hx
      obtain ⟨q', hq', rfl⟩ := List.mem_map.mp hq
      obtain ⟨r, hr, rfl⟩ := List.mem_map.mp hy
      exact hd q' hq' r hr e.symm
  · rcases List.mem_append.mp hq with hq | hq
    · obtain ⟨q', hq', rfl⟩ := List.mem_map.mp hq
      exact n.2 q' hq'
    · exact z.at_ q hq
  · rcases List.mem_append.mp hq with hq | hq
    · obtain ⟨q', hq', rfl⟩ := List.mem_map.mp hq
      exact h0 q' hq'
    · exact z.fresh q hq e
  · exact z.fr b u (fun q hq => hb q (List.mem_append_right _ hq)) h'
/-- behind a call that changes the i-th entry and makes N -/
theorem Z.call (z : Z H0 H E) (i : Nat) {t : Nat} {a : Addr} {o o' : HO} {N : List (Addr × HO)} (hi : E[i]? = some (t, a, o)) (ht : t = 1 ∨ t = 2) (ha : H' a = some o') (f : Fr [a] H H') (n : New H H' N) : Z H0 H' (N.map (fun q => ((2, q.1, q.2) : En)) ++ E.set i (t, a, o')) := by
  refine (z.move i hi ht ha f).adds n.1 (fun q hq => z.none (n.2 q hq)) fun q hq e he => ?_
  rcases mem_set_of he with rfl | ⟨j, hj, e2⟩
  · exact ne_of_none (z.at_ (t, a, o) (List.mem_of_getElem? hi)) (n.2 q hq)
  · exact ne_of_none (z.at_ _ (List.mem_of_getElem? e2)) (n.2 q hq)
/-- behind a call that makes N alone -/
theorem Z.call0 (z : Z H0 H E) {N : List (Addr × HO)} (f : Fr [] H H') (n : New H H' N) : Z H0 H' (N.map (fun q => ((2, q.1, q.2) : En)) ++ E) :=
  (z.same f).adds n.1 (fun q hq => z.none (n.2 q hq)) fun q hq e he => ne_of_none (z.at_ _ he) (n.2 q hq)
/-- entries forgotten, but those that may change -/
theorem Z.sub (z : Z H0 H E) {E' : List En} (s : E'.Sublist E) (k : ∀ q ∈ E, q.1 = 1 → q ∈ E') : Z H0 H E' :=
  ⟨(s.map _).nodup z.nd, fun q hq => z.at_ q (s.subset hq), fun q hq => z.fresh q (s.subset hq), fun a o ha h => z.fr a o (fun q hq e => ha q (k q hq e) e) h⟩
theorem Z.perm (z : Z H0 H E) {E' : List En} (s : E'.Perm E) : Z H0 H E' :=
  ⟨(s.map _).nodup_iff.mpr z.nd, fun q hq => z.at_ q (s.subset hq), fun q hq => z.fresh q (s.subset hq), fun a o ha h => z.fr a o (fun q hq e => ha q (s.symm.subset hq) e) h⟩
theorem Z.fr0 (z : Z H0 H E) (h : ∀ q ∈ E, q.1 ≠ 1) : Fr [] H0 H := fun a o _ e => z.fr a o (fun q hq e1 => absurd e1 (h q hq)) e
theorem Z.fr1 (z : Z H0 H E) {j : Addr} (h : ∀ q ∈ E, q.1 = 1 → q.2.1 = j) : Fr [j] H0 H := fun a o ha e => z.fr a o (fun q hq e1 e2 => ha (by rw [← e2, h q hq e1]; exact List.mem_cons_self)) e
theorem Z.keep (z : Z H0 H E) {a : Addr} {o : HO} (h : H0 a = some o) (n : ∀ q ∈ E, q.1 = 1 → q.2.1 ≠ a) : H a = some o := z.fr a o n h
theorem Z.comp (z : Z H0 H E) {D : Addr} {o : HO} (f : Fr [] H H') (h0 : H D = Option.none) (h1 : H' D = some o) : Z H0 H' ((2, D, o) :: E) := by
  refine z.call0 (N := [(D, o)]) f ⟨⟨List.nodup_cons.mpr ⟨(fun m => nomatch m), List.nodup_nil⟩, fun q hq => ?_⟩, fun q hq => ?_⟩
  · rcases List.mem_cons.mp hq with rfl | hq
    · exact h1
    · cases hq
  · rcases List.mem_cons.mp hq with rfl | hq
    · exact h0
    · cases hq
theorem Z.ne (z : Z H0 H E) (i j : Nat) {q r : En} (hi : E[i]? = some q) (hj : E[j]? = some r) (h : j ≠ i) : r.2.1 ≠ q.2.1 := z.other hi hj h
end
section
variable {K : PySem.W.Frag} {σ : L2.St} {H : Hp} {Q : VK} {QB : Bool → Hp → Prop} {D : Ends} {t u : TS} {ta tb tc te : TE} {tt tu : TT} {tas : TA} {v x y : V} {n i j : Int} {C : Int → Int → Prop} {g : Int → Int → V} {G : TG} {p a : Addr} {xs : List V} {r : R2}
theorem r_seq (h : t { D with nx := u D } σ H) : tSeq t u D σ H := h
theorem r_asg (h : te σ H fun x H1 => G x σ H1 D.nx) : tAsg te G D σ H := h
theorem r_ret (h : te σ H D.rt) : tRet te D σ H := h
theorem r_drop (h : te σ H fun _ H1 => D.nx σ H1) : tDrop te D σ H := h
theorem r_next (h : D.nx σ H) : tNext D σ H := h
theorem r_ifs (h : tt σ H fun b H1 => if b = true then t D σ H1 else u D σ H1) : tIfS tt t u D σ H := h
theorem r_var {k : Nat} (h : σ[k]? = some (some v)) (q : Q v H) : tVar k σ H Q := ⟨v, h, q⟩
theorem r_c (q : Q v H) : tC v σ H Q := q
theorem r_op (h : ta σ H fun x H1 => tb σ H1 fun y H2 => r x y H2 Q) : tOp r ta tb σ H Q := h
theorem r_un {r : V → Hp → VK → Prop} (h : ta σ H fun x H1 => r x H1 Q) : tUn r ta σ H Q := h
theorem r_I0 (q : Q (g i j) H) : rI0 g (.int i) (.int j) H Q := ⟨i, j, rfl, rfl, q⟩
theorem r_I (c : C i j) (q : Q (g i j) H) : rI C g (.int i) (.int j) H Q := ⟨i, j, rfl, rfl, c, q⟩
theorem r_U {g : Int → V} (q : Q (g i) H) : rU g (.int i) H Q := ⟨i, rfl, q⟩
theorem r_test (h : te σ H fun x H' => ∃ k, x = .bl k ∧ QB k H') : tTest te σ H QB := h
theorem r_B (h : te σ H fun x H' => ∃ k, x = .bl k ∧ QB k H') : tB te σ H QB := h
theorem r_and (h : tt σ H fun c H1 => if c = true then tu σ H1 QB else QB false H1) : tAnd tt tu σ H QB := h
theorem r_or (h : tt σ H fun c H1 => if c = true then QB true H1 else tu σ H1 QB) : tOr tt tu σ H QB := h
theorem r_not (h : tt σ H fun c H1 => QB (!c) H1) : tNot tt σ H QB := h
theorem r_andV (h : ta σ H fun x H1 => ∃ c, x = .bl c ∧ if c = true then tb σ H1 Q else Q (.bl false) H1) : tAndV ta tb σ H Q := h
theorem r_orV (h : ta σ H fun x H1 => ∃ c, x = .bl c ∧ if c = true then Q (.bl true) H1 else tb σ H1 Q) : tOrV ta tb σ H Q := h
theorem r_notV (h : ta σ H fun x H1 => ∃ c, x = .bl c ∧ Q (.bl (!c)) H1) : tNotV ta σ H Q := h
theorem r_exif {b : Bool} {P : Bool → Prop} (h : P b) : ∃ c, V.bl b = V.bl c ∧ P c := ⟨b, rfl, h⟩
theorem r_if (h : tt σ H fun c H1 => if c = true then ta σ H1 Q else tb σ H1 Q) : tIf tt ta tb σ H Q := h
theorem r_name {k : Nat} {R : L2.St → Hp → Prop} (h : R (σ.set k (some v)) H) : gName k v σ H R := h
theorem r_gtup {k : Nat} {T : TGs} {R : L2.St → Hp → Prop} (h : SqT K H a xs) (e : xs.length = k) (q : T xs σ H R) : gTup K k T (.ref a) σ H R := ⟨a, xs, rfl, h, e, q⟩
theorem r_gcons {T : TGs} {R : L2.St → Hp → Prop} {vs : List V} (q : G v σ H fun σ' H' => T vs σ' H' R) : gCons G T (v :: vs) σ H R := ⟨v, vs, rfl, q⟩
theorem r_gnil {R : L2.St → Hp → Prop} (q : R σ H) : gNil [] σ H R := ⟨rfl, q⟩
theorem r_gsub {T : TSet} {R : L2.St → Hp → Prop} (h : ta σ H fun o H1 => tb σ H1 fun i H2 => T o i v H2 fun H3 => R σ H3) : gSub ta tb T v σ H R := h
theorem r_setL {R : Hp → Prop} {k : Int} (h : H p = some (.lst xs)) (q : ∃ m, ixN xs.length k = some m ∧ R (upd H p (.lst (xs.set m v)))) : rSetL (.ref p) (.int k) v H R := by
  obtain ⟨m, e, q⟩ := q
  exact ⟨p, xs, k, m, rfl, rfl, h, e, q⟩
theorem r_tup (h : tas σ H fun xs H1 => xs.length ≤ sizeLine ∧ ∀ p, H1 p = none → Q (.ref p) (upd H1 p (.tup xs))) : tTup tas σ H Q := h
theorem r_lst (h : tas σ H fun xs H1 => xs.length ≤ sizeLine ∧ ∀ p, H1 p = none → Q (.ref p) (upd H1 p (.lst xs))) : tLst tas σ H Q := h
theorem r_mk {P : Prop} (e : xs.length ≤ sizeLine) (h : P) : xs.length ≤ sizeLine ∧ P := ⟨e, h⟩
theorem iteNT {A B : Prop} (h : B) : if (!true) = true then A else B := iteF h
theorem iteNF {A B : Prop} (h : A) : if (!false) = true then A else B := iteT h
theorem r_cons {R : List V → Hp → Prop} (h : ta σ H fun x H1 => tas σ H1 fun xs H2 => R (x :: xs) H2) : tCons ta tas σ H R := h
theorem r_nil {R : List V → Hp → Prop} (h : R [] H) : tNil σ H R := h
theorem r_cb {rr : List V → Hp → VK → Prop} (h : tas σ H fun vs H1 => rr vs H1 Q) : tCB rr tas σ H Q := h
theorem r_call {sp : Sp} {dvs : List V} {E : XK} (h : tas σ H fun vs H1 => sp (vs ++ dvs) H1 Q E) : tCall sp dvs E tas σ H Q := h
theorem r_ixL (h : SqL K H p xs) (q : ∃ v, atI xs i = some v ∧ Q v H) : rIxL K (.ref p) (.int i) H Q := by
  obtain ⟨v, e, q⟩ := q
  exact ⟨p, xs, i, v, rfl, rfl, h, e, q⟩
theorem r_ixT (h : SqT K H p xs) (q : ∃ v, atI xs i = some v ∧ Q v H) : rIxT K (.ref p) (.int i) H Q := by
  obtain ⟨v, e, q⟩ := q
  exact ⟨p, xs, i, v, rfl, rfl, h, e, q⟩
theorem r_at {P : V → Prop} (e : atI xs i = some v) (q : P v) : ∃ v, atI xs i = some v ∧ P v := ⟨v, e, q⟩
theorem r_ixn {k : Int} {m n : Nat} {P : Nat → Prop} (e : ixN n k = some m) (q : P m) : ∃ m, ixN n k = some m ∧ P m := ⟨m, e, q⟩
theorem r_ixSL (q : rIxL K x y H Q) : rIx K x y H Q := .inl q
theorem r_ixST (q : rIxT K x y H Q) : rIx K x y H Q := .inr (.inl q)
theorem r_exfld {Cc dx : Addr} {fs : List (Str × V)} {f : Str} {P : V → Prop} (h : H a = some (.ins Cc dx fs)) (c : Cls K Cc) (n : NoAttr K Cc f) (l : fs.lookup f = some v) (q : P v) :
    ∃ b C dx fs v, V.ref a = .ref b ∧ H b = some (.ins C dx fs) ∧ Cls K C ∧ NoAttr K C f ∧ fs.lookup f = some v ∧ P v := ⟨a, Cc, dx, fs, v, rfl, h, c, n, l, q⟩
theorem r_exsfld {Cc dx : Addr} {fs : List (Str × V)} {f : Str} {P : Addr → Addr → Addr → List (Str × V) → Prop} (h : H a = some (.ins Cc dx fs)) (c : Cls K Cc) (n : NoAttr K Cc f) (l : fs.length < 1000) (q : P a Cc dx fs) :
    ∃ b C dx fs, V.ref a = .ref b ∧ H b = some (.ins C dx fs) ∧ Cls K C ∧ NoAttr K C f ∧ fs.length < 1000 ∧ P b C dx fs := ⟨a, Cc, dx, fs, rfl, h, c, n, l, q⟩
theorem r_sfld {f : Str} (h : te σ H fun y H1 => ta σ H1 fun x H2 => ∃ a C dx fs, x = .ref a ∧ H2 a = some (.ins C dx fs) ∧ Cls K C ∧ NoAttr K C f ∧ fs.length < 1000 ∧ D.nx σ (upd H2 a (.ins C dx (putF f y fs)))) : sFld K ta te f D σ H := h
theorem r_exp {Cc dx : Addr} {fs : List (Str × V)} {P : Addr → Prop} (h : H a = some (.ins Cc dx fs)) (q : P a) : ∃ b dx fs, V.ref a = .ref b ∧ H b = some (.ins Cc dx fs) ∧ P b := ⟨a, dx, fs, rfl, h, q⟩
theorem r_fld {f : Str} (h : ta σ H fun x H1 => ∃ a C dx fs v, x = .ref a ∧ H1 a = some (.ins C dx fs) ∧ Cls K C ∧ NoAttr K C f ∧ fs.lookup f = some v ∧ Q v H1) : tFld K ta f σ H Q := h
theorem r_bm {T : String} {rr : V → List V → Hp → VK → Prop} (h : ta σ H fun x H1 => tyV K T x H1 ∧ tas σ H1 fun xs H2 => rr x xs H2 Q) : tBM K T rr ta tas σ H Q := h
theorem r_app (h : H p = some (.lst xs)) (e : xs.length < sizeLine) (q : Q .non (upd H p (.lst (xs ++ [y])))) : rAppend (.ref p) [y] H Q := ⟨p, xs, y, rfl, rfl, h, e, q⟩
theorem r_tyL {P : Prop} (h : H p = some (.lst xs)) (q : P) : tyV K "list" (.ref p) H ∧ P := ⟨.inl ⟨rfl, _, SqL.of h⟩, q⟩
theorem r_sl {rr : V → Option Int → Option Int → Hp → VK → Prop} {tl th : TO} (h : te σ H fun x H1 => tl σ H1 fun l H2 => th σ H2 fun u H3 => rr x l u H3 Q) : tSl rr te tl th σ H Q := h
theorem r_part {R : Option Int → Hp → Prop} (h : te σ H fun x H1 => ∃ i, x = .int i ∧ R (some i) H1) : tPart te σ H R := h
theorem r_exint {R : Int → Prop} (h : R i) : ∃ k, V.int i = V.int k ∧ R k := ⟨i, rfl, h⟩
theorem r_nopart {R : Option Int → Hp → Prop} (h : R none H) : tNoPart σ H R := h
theorem r_slL {lo hi : Option Int} (h : SqL K H a xs) (q : ∀ p, H p = none → Q (.ref p) (upd H p (.lst (cutV xs lo hi)))) : rSlL K (.ref a) lo hi H Q := ⟨a, xs, rfl, h, q⟩
theorem r_revL (h : te σ H fun x H1 => ∃ a xs, x = .ref a ∧ SqL K H1 a xs ∧ ∀ p, H1 p = none → Q (.ref p) (upd H1 p (.lst xs.reverse))) : tRevL K te σ H Q := h
theorem r_exrev {P : List V → Prop} (h : SqL K H a xs) (q : P xs) : ∃ b ys, V.ref a = .ref b ∧ SqL K H b ys ∧ P ys := ⟨a, xs, rfl, h, q⟩
theorem r_cat {l b : Addr} {zs : List V} (h1 : H l = some (.lst xs)) (h2 : H b = some (.lst zs)) (e : xs.length + zs.length ≤ sizeLine) (q : ∀ p, H p = none → Q (.ref p) (upd H p (.lst (xs ++ zs)))) : rCat (.ref l) (.ref b) H Q := ⟨l, b, xs, zs, rfl, rfl, h1, h2, e, q⟩
theorem r_eq (h : scal x y = true) (q : Q (.bl (decide (x = y))) H) : rEq x y H Q := ⟨h, q⟩
theorem r_ne (h : scal x y = true) (q : Q (.bl (!decide (x = y))) H) : rNe x y H Q := ⟨h, q⟩
theorem r_chain {r' : R2} (h : ta σ H fun x H1 => tb σ H1 fun y H2 => r x y H2 fun z H3 => ∃ k, z = .bl k ∧ (if k = true then tc σ H3 fun w' H4 => r' y w' H4 Q else Q (.bl false) H3)) : tChain r r' ta tb tc σ H Q := h
theorem r_ite {c A B : Prop} [Decidable c] (h1 : c → A) (h2 : ¬ c → B) : if decide c = true then A else B := ite2 (fun z => h1 (of_decide_eq_true z)) fun z => h2 fun y => z (decide_eq_true y)
theorem r_iteN {c A B : Prop} [Decidable c] (h1 : ¬ c → A) (h2 : c → B) : if (!decide c) = true then A else B := ite2 (fun z => h1 fun y => by rw [decide_eq_true y] at z; cases z) fun z => h2 (by
  by_cases y : c
  · exact y
  · exact absurd (by rw [decide_eq_false y]; rfl) z)
theorem r_par {k l : Nat} (h : tas σ H fun vs H1 => ∃ v w, vs = [v, w] ∧ D.nx ((σ.set k (some v)).set l (some w)) H1) : tPar k l tas D σ H := h
theorem r_expar {R : V → V → Prop} (h : R x y) : ∃ v w, [x, y] = [v, w] ∧ R v w := ⟨x, y, rfl, h⟩
def ForJ (G : TG) (tb : TS) (D : Ends) (σ : L2.St) (J : It) (H1 : Hp) : Prop := ∃ W : Nat → Nat → L2.St → Hp → Prop, (∃ m, W 0 m σ H1) ∧ ∀ i m σ H, W i m σ H →
  (J.stop i H ∧ D.nx σ H) ∨ (J.go i H ∧ ∃ N : L2.St → Hp → Prop, (∀ σ' H', N σ' H' → ∃ m', m' < m ∧ W (i + 1) m' σ' H') ∧ ∀ x H', J.yld i H x H' → G x σ H' fun σ2 H2 => tb { D with nx := N, ct := N, bk := D.nx } σ2 H2)
theorem r_for {wi : TI} {tb : TS} (h : wi σ H (ForJ G tb D σ)) : tFor wi G tb D σ H := h
def LcJ (G : TG) (tt : TT) (te : TE) (vs : List Nat) (σ : L2.St) (Q : VK) (J : It) (H1 : Hp) : Prop := ∀ D, H1 D = none → ∃ W : Nat → Nat → Hp → Prop, (∃ m, W 0 m (upd H1 D (.lst []))) ∧ ∀ i m H, W i m H →
  (J.stop i H ∧ Q (.ref D) H) ∨ (J.go i H ∧ ∃ Nx : Hp → Prop, (∀ H', Nx H' → ∃ m', m' < m ∧ W (i + 1) m' H') ∧ ∀ x H', J.yld i H x H' → G x (wipe σ vs) H' fun σ2 H2 => wipe σ2 vs = wipe σ vs ∧ tt σ2 H2 fun b H3 =>
    if b = true then te σ2 H3 fun y H4 => ∃ acc, H4 D = some (.lst acc) ∧ acc.length < sizeLine ∧ Nx (upd H4 D (.lst (acc ++ [y]))) else Nx H3)
theorem r_lc {wi : TI} {vs : List Nat} (h : wi σ H (LcJ G tt te vs σ Q)) : tLc wi G tt te vs σ H Q := h
theorem r_ilist {R : It → Hp → Prop} (h : te σ H fun x H1 => ∃ a, x = .ref a ∧ (∃ xs, SqL K H1 a xs) ∧ R (Itl K a) H1) : iList K te σ H R := h
theorem r_exil {P : Addr → Prop} (hs : SqL K H a xs) (h : P a) : ∃ b, V.ref a = .ref b ∧ (∃ xs, SqL K H b xs) ∧ P b := ⟨a, rfl, ⟨xs, hs⟩, h⟩
theorem r_itup {R : It → Hp → Prop} (h : te σ H fun x H1 => ∃ a, x = .ref a ∧ (∃ xs, SqT K H1 a xs) ∧ R (Itt K a) H1) : iTup K te σ H R := h
theorem r_exit {P : Addr → Prop} (hs : SqT K H a xs) (h : P a) : ∃ b, V.ref a = .ref b ∧ (∃ xs, SqT K H b xs) ∧ P b := ⟨a, rfl, ⟨xs, hs⟩, h⟩
theorem r_irng1 {R : It → Hp → Prop} (h : tas σ H fun vs H1 => ∃ j : Int, vs = [.int j] ∧ -(2 ^ 62) ≤ j ∧ j < 2 ^ 62 ∧ R (Itr 0 j.toNat) H1) : iRng1 tas σ H R := h
theorem r_irng2 {R : It → Hp → Prop} (h : tas σ H fun vs H1 => ∃ i j : Int, vs = [.int i, .int j] ∧ (-(2 ^ 62) ≤ i ∧ i < 2 ^ 62 ∧ -(2 ^ 62) ≤ j ∧ j < 2 ^ 62) ∧ R (Itr i (j - i).toNat) H1) : iRng2 tas σ H R := h
theorem r_irng3 {R : It → Hp → Prop} (h : tas σ H fun vs H1 => ∃ (i j c : Int) (n : Nat), vs = [.int i, .int j, .int c] ∧ RgC i j c n ∧ R (Itc i c n) H1) : iRng3 tas σ H R := h
theorem r_exr3 {P : Int → Int → Nat → Prop} (h1 : -(2 ^ 62) ≤ i ∧ i < 2 ^ 62 ∧ -(2 ^ 62) ≤ j ∧ j < 2 ^ 62) (h : P i (-1) (i - j).toNat) : ∃ (k l c : Int) (n : Nat), [V.int i, V.int j, V.int (-1)] = [.int k, .int l, .int c] ∧ RgC k l c n ∧ P k c n := ⟨i, j, -1, _, rfl, RgC.neg h1.1 h1.2.1 h1.2.2.1 h1.2.2.2, h⟩
theorem r_izip {R : It → Hp → Prop} (h : tas σ H fun vs H1 => ∃ a b xs ys, vs = [.ref a, .ref b] ∧ SqL K H1 a xs ∧ SqL K H1 b ys ∧ R (Itz K a b) H1) : iZip K tas σ H R := h
theorem r_exz {P : Addr → Addr → Prop} {b : Addr} {ys : List V} (h1 : SqL K H a xs) (h2 : SqL K H b ys) (h : P a b) : ∃ c d xs ys, [V.ref a, V.ref b] = [.ref c, .ref d] ∧ SqL K H c xs ∧ SqL K H d ys ∧ P c d := ⟨a, b, xs, ys, rfl, h1, h2, h⟩
theorem r_ienum {R : It → Hp → Prop} (h : tas σ H fun vs H1 => ∃ a xs, vs = [.ref a] ∧ SqL K H1 a xs ∧ R (Ite K a) H1) : iEnum K tas σ H R := h
theorem r_exen {P : Addr → Prop} (h1 : SqL K H a xs) (h : P a) : ∃ c xs, [V.ref a] = [.ref c] ∧ SqL K H c xs ∧ P c := ⟨a, xs, rfl, h1, h⟩
theorem r_yes (h : QB true H) : tYes σ H QB := h
theorem r_len {P : List V → Prop} (h : SqL K H p xs) (q : P xs) : ∃ r ys, [V.ref p] = [.ref r] ∧ (SqL K H r ys ∨ SqT K H r ys) ∧ P ys := ⟨p, xs, rfl, .inl h, q⟩
theorem r_lenT {P : List V → Prop} (h : SqT K H p xs) (q : P xs) : ∃ r ys, [V.ref p] = [.ref r] ∧ (SqL K H r ys ∨ SqT K H r ys) ∧ P ys := ⟨p, xs, rfl, .inr h, q⟩
theorem r_int1 {P : Int → Prop} {P' : Prop} (q : P i) : (∃ k, [V.int i] = [.int k] ∧ P k) ∨ P' := .inl ⟨i, rfl, q⟩
theorem r_int2 {P : Int → Prop} (q : P i) : ∃ k, [V.int i] = [.int k] ∧ P k := ⟨i, rfl, q⟩
theorem r_int3 {P : Int → Int → Prop} (q : P i j) : ∃ k l, [V.int i, V.int j] = [.int k, .int l] ∧ P k l := ⟨i, j, rfl, q⟩
theorem r_all {bs : List Bool} (h : SqL K H p (bs.map V.bl)) (q : Q (.bl (bs.all id)) H) : rAll K [.ref p] H Q := ⟨p, bs, rfl, h, q⟩
theorem r_allB {bs : List Bool} {b : Bool} (h : SqL K H p (bs.map V.bl)) (e : bs.all id = b) (q : Q (.bl b) H) : rAll K [.ref p] H Q := ⟨p, bs, rfl, h, by rw [e]; exact q⟩
theorem r_anyB {bs : List Bool} {b : Bool} (h : SqL K H p (bs.map V.bl)) (e : bs.any id = b) (q : Q (.bl b) H) : rAny K [.ref p] H Q := ⟨p, bs, rfl, h, by rw [e]; exact q⟩
theorem r_isi {b : Bool} {t u : Value} {c : V} (h1 : ClsV c u) (h2 : TyX K H x t) (h3 : PySem.W.kitOne K t u = some b) (q : Q (.bl b) H) : rIsi K [x, c] H Q := ⟨x, c, t, u, b, rfl, h1, h2, h3, q⟩
theorem r_make {sp : Sp} {dvs : List V} {E : XK} {Cc : Addr} (h : tas σ H fun vs H1 => ∀ x dx, H1 x = none → H1 dx = none → dx ≠ x → sp (.ref x :: (vs ++ dvs)) (upd (upd H1 dx (.own x)) x (.ins Cc dx [])) (fun v H2 => v = .non ∧ Q (.ref x) H2) E) : tMake Cc sp dvs E tas σ H Q := h
theorem r_meth {sp : Sp} {dvs : List V} {E : XK} {Cc : Addr} {m : Str} (h : ta σ H fun x H1 => ∃ a dx fs, x = .ref a ∧ H1 a = some (.ins Cc dx fs) ∧ fs.lookup m = none ∧ tas σ H1 fun vs H2 => sp (x :: (vs ++ dvs)) H2 Q E) : tMeth Cc m sp dvs E ta tas σ H Q := h
theorem r_prop {sp : Sp} {dvs : List V} {E : XK} {Cc : Addr} (h : ta σ H fun x H1 => ∃ a dx fs, x = .ref a ∧ H1 a = some (.ins Cc dx fs) ∧ sp (.ref a :: dvs) H1 Q E) : tProp Cc sp dvs E ta σ H Q := h
end
abbrev rLenX (K : PySem.W.Frag) : List V → Hp → VK → Prop := fun xs H Q => ∃ p ys, xs = [.ref p] ∧ (SqL K H p ys ∨ SqT K H p ys) ∧ Q (.int ys.length) H
section
variable {X : Cx}
/-- x ** n of any size below 2 ^ 27 bits -/
def CPowW (i j : Int) : Prop := 0 ≤ j ∧ (Builtin.Int.intBits i : Int) * j ≤ 2 ^ 27
theorem op_powW : OpR X (binaryOp .Pow) (rI CPowW fun i j => .int (i ^ j.toNat)) := opI fun _ _ _ _ _ _ _ hc q => pow_int hc.1 hc.2 q
theorem powW {i j : Int} {b : Nat} (h0 : 0 ≤ j) (hj : j ≤ 100) (hb : i.natAbs < 2 ^ b) (h : b ≤ 1000000) (h1 : 0 < b) : CPowW i j := by
  refine ⟨h0, ?_⟩
  have h2 : Builtin.Int.intBits i ≤ b := by
    unfold Builtin.Int.intBits
    have := PySem.Flt.log2_lt_of h1 hb
    split <;> omega
  have h3 : (Builtin.Int.intBits i : Int) ≤ 1000000 := by omega
  have h4 : (Builtin.Int.intBits i : Int) * j ≤ 1000000 * 100 := Int.mul_le_mul h3 hj h0 (by decide)
  omega
theorem pow10 {j : Int} (h : 0 ≤ j ∧ j ≤ 100) : CPowW 10 j := powW (b := 4) h.1 h.2 (by decide) (by decide) (by decide)
theorem natAbs_lt {x : Int} {n : Nat} (h0 : -(2 ^ n) < x) (h : x < 2 ^ n) : x.natAbs < 2 ^ n := by
  have e : ((2 ^ n : Nat) : Int) = (2 : Int) ^ n := by simp
  omega
end
theorem smalllt' {n : Nat} (h : n ≤ 99999) : n < PySem.sizeLine := Nat.lt_of_lt_of_le (show n < 100000 by omega) (by decide)
theorem small1000' {n : Nat} (h : n ≤ 100000) : n ≤ PySem.sizeLine := Nat.le_trans h (by decide)
set_option Elab.async false
set_option linter.all false
set_option maxRecDepth 100000
set_option maxHeartbeats 4000000
def propB (K : PySem.W.Frag) (C : Addr) (f : Str) : Bool := match PySem.W.findIn K (.ref C) f with
  | some (some (.ref p)) => He.eqO (PySem.W.specialIn K (.ref p) "__get__") (some (some (.builtin "property.__get__"))) && (decide (PySem.W.takesIn K (.ref p) = some true) && (match PySem.W.recIn K p "property" with
    | some (.ref _ :: _) => true
    | _ => false))
  | _ => false
/-- the getter of a property -/
def pgA (C f : Str) (K : PySem.W.Frag) : Addr := match PySem.W.findIn K (.ref (He.ga K C)) f with
  | some (some (.ref p)) => (match PySem.W.recIn K p "property" with
    | some (.ref g :: _) => g
    | _ => 0)
  | _ => 0
theorem propB_ok {K : PySem.W.Frag} {C f : Str} (h : propB K (He.ga K C) f = true) : ∃ p, PropOf K (He.ga K C) f p (pgA C f K) := by
  unfold propB at h
  unfold pgA
  cases e : PySem.W.findIn K (.ref (He.ga K C)) f with
  | none =>
    rw [e] at h
    cases h
  | some r =>
    cases r with
    | none =>
      rw [e] at h
      cases h
    | some u =>
      cases u with
      | ref p =>
        rw [e] at h
        dsimp only at h ⊢
        obtain ⟨h1, h2⟩ := He.ba h
        obtain ⟨h3, h4⟩ := He.ba h2
        cases e2 : PySem.W.recIn K p "property" with
        | none =>
          rw [e2] at h4
          cases h4
        | some l =>
          rw [e2] at h4
          cases l with
          | nil => cases h4
          | cons g r =>
            cases g with
            | ref g => exact ⟨p, e, He.eqO_ok h1, of_decide_eq_true h3, r, e2⟩
            | _ => cases h4
      | _ =>
        rw [e] at h
        cases h
inductive Fb where
  | b (f : He.Fa)
  | prop (C f : Str)
  | findB (C m : Str) (id : String)
  | isi (C : Str)
  | kit (C D : Str) (r : Bool)
  | tyc (C : Str)
def Fb.ok (K : PySem.W.Frag) : Fb → Bool
  | .b f => f.ok K
  | .prop C f => propB K (He.ga K C) f
  | .findB C m id => He.eqO (PySem.W.findIn K (.ref (He.ga K C)) m) (some (some (.builtin id)))
  | .isi C => He.eqO (PySem.W.findIn K (.ref (He.ga K C)) "__class__") (some (some (.builtin "object.__class__"))) && (He.eqO (PySem.W.specialIn K (.builtin "object.__class__") "__get__") (some (some (.builtin "getset_descriptor.__get__"))) &&
      (decide (PySem.W.takesIn K (.builtin "object.__class__") = some true) && decide (PySem.W.mroIn K (He.ga K C) (.type "object") = some true)))
  | .kit C D r => decide (PySem.W.kitOne K (.ref (He.ga K C)) (.ref (He.ga K D)) = some r)
  | .tyc C => (PySem.W.clsIn K (He.ga K C)).isSome && decide (PySem.W.typeIn K (.ref (He.ga K C)) = some (.type "type"))
/-- a def: its address by names -/
structure Df where
  at_ : PySem.W.Frag → Addr
  name : Str
  qual : Str
  st : Stmt
def Df.da (d : Df) : He5.DefA := ⟨d.at_, d.name, d.qual, defArgs d.st, defBody d.st, defScope d.st, [], []⟩
def obsM (fa : List Fb) (fn : List Df) (K : PySem.W.Frag) : He.AlD := ((fa.all fun f => f.ok K) && fn.all fun d => d.da.ok K, fn.map fun d => He5.fnA K (d.at_ K))
def valM (fn : List Df) : He.AlD := (true, fn.map fun d => d.da.val)
def SaysM (fa : List Fb) (fn : List Df) (K : PySem.W.Frag) : Prop := obsM fa fn K = valM fn
def obsMG (n : Nat) (fa : List Fb) (fn : List Df) (g : Addr → Option Obj) : He.AlD := obsM fa fn (He.frG g (He5.asA g n))
def hookM (n : Nat) (fa : List Fb) (fn : List Df) : PySem.W.Hook where
  α := He.AlD
  obs := fun s => obsMG n fa fn s.heap.get?
  val := fun _ => valM fn
  says := fun _ h => ∃ K : PySem.W.Frag, K.In h ∧ SaysM fa fn K
  of := fun _ _ e => ⟨_, He.frG_in, e⟩
  keeps := fun _ _ _ ⟨K, hK, c⟩ k => ⟨K, PySem.W.Frag.In.keeps hK k, c⟩
theorem obsMG_eq {n : Nat} {fa : List Fb} {fn : List Df} {g : Addr → Option Obj} {s : Shared} (h : ∀ a, g a = s.heap.get? a) : obsMG n fa fn g = (hookM n fa fn).obs s := by
  have e : g = s.heap.get? := funext h
  rw [e] <;> rfl
/-- the top's facts, the base heap -/
structure Tx (fa : List Fb) (fn : List Df) (K : PySem.W.Frag) (mg : Str → Option Value) (base : Heap) : Prop where
  says : SaysM fa fn K
  kin : K.In base
  ns : base.Ns mainGlobals mg
section
variable {fa : List Fb} {fn : List Df} {K : PySem.W.Frag} {mg : Str → Option Value} {base : Heap} {P : Program} {w : World}
theorem Tx.fact (T : Tx fa fn K mg base) (i : Nat) {f : Fb} (h : fa[i]? = some f := by rfl) : f.ok K = true := by
  have c1 := (He.ba (show ((fa.all fun f => f.ok K) && fn.all fun d => d.da.ok K) = true from congrArg (fun z : He.AlD => z.1) T.says)).1
  exact List.all_eq_true.mp c1 f (List.mem_of_getElem? h)
theorem Tx.def_ (T : Tx fa fn K mg base) (i : Nat) {d : Df} (h : fn[i]? = some d := by rfl) : ∃ fd, FunD K d.name d.qual (defArgs d.st) (defBody d.st) (defScope d.st) [] [] (d.at_ K) fd := by
  have c2 := (He.ba (show ((fa.all fun f => f.ok K) && fn.all fun d => d.da.ok K) = true from congrArg (fun z : He.AlD => z.1) T.says)).2
  have e : fn.map (fun d => He5.fnA K (d.at_ K)) = fn.map (fun d => d.da.val) := congrArg (fun z : He.AlD => z.2) T.says
  have e2 : (fn.map fun d => He5.fnA K (d.at_ K))[i]? = (fn.map fun d => d.da.val)[i]? := by rw [e]
  rw [List.getElem?_map, List.getElem?_map, h] at e2
  exact He5.DefA.funD (d := d.da) (Option.some.inj e2) (List.all_eq_true.mp c2 d (List.mem_of_getElem? h))
theorem Tx.fr (T : Tx fa fn K mg base) (i : Nat) {x : Str} (h : fa[i]? = some (.b (.free x)) := by rfl) : mg x = none := He.free_ok T.kin T.ns (T.fact i h)
theorem Tx.glo (T : Tx fa fn K mg base) (i : Nat) {x : Str} (h : fa[i]? = some (.b (.glo x)) := by rfl) : mg x = some (.ref (He.ga K x)) := He.glo_ok T.kin T.ns (T.fact i h)
theorem Tx.int (T : Tx fa fn K mg base) (i : Nat) {x : Str} {n : Int} (h : fa[i]? = some (.b (.int x n)) := by rfl) : ∃ t, mg x = some (.int n t) := He.int_ok T.kin T.ns (T.fact i h)
theorem Tx.cls (T : Tx fa fn K mg base) (i : Nat) {x : Str} (h : fa[i]? = some (.b (.cls x)) := by rfl) : Cls K (He.ga K x) := He.cls_ok (T.fact i h)
theorem Tx.noat (T : Tx fa fn K mg base) (i : Nat) {x f : Str} (h : fa[i]? = some (.b (.noat x f)) := by rfl) : NoAttr K (He.ga K x) f := He.noat_ok (T.fact i h)
theorem Tx.meth (T : Tx fa fn K mg base) (i : Nat) {x m : Str} (h : fa[i]? = some (.b (.meth x m)) := by rfl) : Meth K (He.ga K x) m (He.ma K (He.ga K x) m) := He.meth_ok (T.fact i h)
theorem Tx.mkr (T : Tx fa fn K mg base) (i : Nat) {x : Str} (h : fa[i]? = some (.b (.mkr x)) := by rfl) : Mk K (He.ga K x) (He.ma K (He.ga K x) "__init__") := He.mkr_ok (T.fact i h)
theorem Tx.prop (T : Tx fa fn K mg base) (i : Nat) {C f : Str} (h : fa[i]? = some (.prop C f) := by rfl) : ∃ p, PropOf K (He.ga K C) f p (pgA C f K) := propB_ok (T.fact i h)
theorem Tx.findB (T : Tx fa fn K mg base) (i : Nat) {C m : Str} {id : String} (h : fa[i]? = some (.findB C m id) := by rfl) : PySem.W.findIn K (.ref (He.ga K C)) m = some (some (.builtin id)) := He.eqO_ok (T.fact i h)
theorem Tx.kit (T : Tx fa fn K mg base) (i : Nat) {C D : Str} {r : Bool} (h : fa[i]? = some (.kit C D r) := by rfl) : PySem.W.kitOne K (.ref (He.ga K C)) (.ref (He.ga K D)) = some r := of_decide_eq_true (T.fact i h)
theorem Tx.isi (T : Tx fa fn K mg base) (i j : Nat) {C : Str} {H : Hp} {a dx : Addr} {fs : List (Str × V)} (e : H a = some (.ins (He.ga K C) dx fs)) (h : fa[i]? = some (.isi C) := by rfl) (hj : fa[j]? = some (.b (.cls C)) := by rfl) : TyX K H (.ref a) (.ref (He.ga K C)) := by
  obtain ⟨h1, h2⟩ := He.ba (T.fact i h)
  obtain ⟨h3, h4⟩ := He.ba h2
  obtain ⟨h5, h6⟩ := He.ba h4
  exact .base (.ins e (T.cls j hj) (He.eqO_ok h1) (He.eqO_ok h3) (of_decide_eq_true h5) (of_decide_eq_true h6))
theorem Tx.tyc (T : Tx fa fn K mg base) (i : Nat) {C : Str} {t : Value} {r : Bool} (n : (t == .ref (He.ga K C)) = false) (e : PySem.W.subIn K t (.ref (He.ga K C)) = some r) (h : fa[i]? = some (.tyc C) := by rfl) : PySem.W.kitOne K t (.ref (He.ga K C)) = some r := by
  obtain ⟨h1, h2⟩ := He.ba (T.fact i h)
  have h3 := of_decide_eq_true h2
  unfold PySem.W.kitOne
  rw [n, if_neg (by decide)]
  unfold PySem.W.kitCls
  dsimp only
  rw [h1, h3, if_pos (by decide)]
  exact e
theorem Tx.mroI (T : Tx fa fn K mg base) (i : Nat) {C : Str} (h : fa[i]? = some (.isi C) := by rfl) : PySem.W.mroIn K (He.ga K C) (.type "object") = some true := by
  obtain ⟨_, h2⟩ := He.ba (T.fact i h)
  obtain ⟨_, h4⟩ := He.ba h2
  obtain ⟨_, h6⟩ := He.ba h4
  exact of_decide_eq_true h6
structure Fk (P : Program) (w : World) (K : PySem.W.Frag) (mg : Str → Option Value) (base : Heap) (x : Str) (ps : List Str) (k : Nat) (sp : Sp) (st : Stmt) (q : Str) : Prop where
  ex : ∃ (f : Addr) (fd : FuncData), FnOk P w K mg base CX0 k f fd ps sp ∧ mg x = some (.ref f) ∧ PySem.W.keepIn K (.ref f) = true ∧ Binds K fd ps [] ∧ FunD K x q (defArgs st) (defBody st) (defScope st) [] [] f fd
structure Mth (P : Program) (w : World) (K : PySem.W.Frag) (mg : Str → Option Value) (base : Heap) (C : Addr) (m : Str) (ps : List Str) (k : Nat) (sp : Sp) (st : Stmt) (q : Str) : Prop where
  ex : ∃ (f : Addr) (fd : FuncData), FnOk P w K mg base CX0 k f fd ps sp ∧ Meth K C m f ∧ Binds K fd ps [] ∧ Cls K C ∧ FunD K m q (defArgs st) (defBody st) (defScope st) [] [] f fd
structure Ini (P : Program) (w : World) (K : PySem.W.Frag) (mg : Str → Option Value) (base : Heap) (C : Addr) (ps : List Str) (k : Nat) (sp : Sp) (st : Stmt) (q : Str) : Prop where
  ex : ∃ (f : Addr) (fd : FuncData), FnOk P w K mg base CX0 k f fd ps sp ∧ Mk K C f ∧ Binds K fd ps [] ∧ FunD K "__init__" q (defArgs st) (defBody st) (defScope st) [] [] f fd
structure Prp (P : Program) (w : World) (K : PySem.W.Frag) (mg : Str → Option Value) (base : Heap) (C : Addr) (x : Str) (k : Nat) (sp : Sp) : Prop where
  ex : ∃ (p g : Addr) (fd : FuncData), FnOk P w K mg base CX0 k g fd ["self"] sp ∧ PropOf K C x p g ∧ Binds K fd ["self"] [] ∧ Cls K C
/-- what a def's proof is made of -/
def BndOk (d : Df) (ps : List Str) : Prop := ∀ (kV doc pm : Value) (an : Option Addr) (cdv ct : Value) (us : List Value), us.length = ps.length → bindArgs (PySem.W.fnOf d.name d.qual (defArgs d.st) (defBody d.st) (defScope d.st) .none kV doc pm an cdv ct) ⟨us, []⟩ = pure (ps.zip us)
def BodyOk (P : Program) (w : World) (K : PySem.W.Frag) (mg : Str → Option Value) (base : Heap) (d : Df) (N : List Str) (k : Nat) (sp : Sp) : Prop :=
  ∀ (cdv : Value) (A : Around) (outer : List Env) (s : Shared) (H : Hp) (vs : List V) (Q : VK) (E : XK), Room k (A.deeper (envOfC d.qual (defScope d.st) s.heap.objs.size (d.at_ K) cdv)) → sp vs H Q E →
      ∃ t, PSs (cxOf CX0 P w K mg base N d.qual (defScope d.st) (d.at_ K) cdv A outer s H E).nox (defBody d.st) t ∧ t { nx := fun _ H' => Q .non H', rt := Q } (start N vs) H
theorem Tx.ok (T : Tx fa fn K mg base) (i : Nat) {d : Df} {N ps : List Str} {k : Nat} {sp : Sp} (S : FnScope N ps (defScope d.st)) (hb : BndOk d ps) (len : ∀ vs H Q E, sp vs H Q E → vs.length = ps.length) (body : BodyOk P w K mg base d N k sp) (hd : fn[i]? = some d := by rfl) :
    ∃ fd, FnOk P w K mg base CX0 (k + 1) (d.at_ K) fd ps sp ∧ PySem.W.keepIn K (.ref (d.at_ K)) = true ∧ Binds K fd ps [] ∧ FunD K d.name d.qual (defArgs d.st) (defBody d.st) (defScope d.st) [] [] (d.at_ K) fd := by
  obtain ⟨fd, F⟩ := T.def_ i hd
  refine ⟨fd, F.ok S len fun cdv A outer s H vs Q E hr h => ?_, F.kp, F.bindsN hb, F⟩
  obtain ⟨t, h1, h2⟩ := body cdv A outer s H vs Q E hr h
  exact ⟨t, PSs.nox h1, h2⟩
theorem Tx.fk (T : Tx fa fn K mg base) (i j : Nat) {x q : Str} {st : Stmt} {N ps : List Str} {k : Nat} {sp : Sp} (S : FnScope N ps (defScope st)) (hb : BndOk ⟨fun K => He.ga K x, x, q, st⟩ ps) (len : ∀ vs H Q E, sp vs H Q E → vs.length = ps.length)
    (body : BodyOk P w K mg base ⟨fun K => He.ga K x, x, q, st⟩ N k sp) (hd : fn[i]? = some ⟨fun K => He.ga K x, x, q, st⟩ := by rfl) (hg : fa[j]? = some (.b (.glo x)) := by rfl) : Fk P w K mg base x ps (k + 1) sp st q := by
  obtain ⟨fd, F, kp, b, fu⟩ := T.ok i (d := ⟨fun K => He.ga K x, x, q, st⟩) S hb len body hd
  exact ⟨_, fd, F, T.glo j hg, kp, b, fu⟩
theorem Tx.mth (T : Tx fa fn K mg base) (i j c : Nat) {C m q : Str} {st : Stmt} {N ps : List Str} {k : Nat} {sp : Sp} (S : FnScope N ps (defScope st)) (hb : BndOk ⟨fun K => He.ma K (He.ga K C) m, m, q, st⟩ ps) (len : ∀ vs H Q E, sp vs H Q E → vs.length = ps.length)
    (body : BodyOk P w K mg base ⟨fun K => He.ma K (He.ga K C) m, m, q, st⟩ N k sp) (hd : fn[i]? = some ⟨fun K => He.ma K (He.ga K C) m, m, q, st⟩ := by rfl) (hg : fa[j]? = some (.b (.meth C m)) := by rfl) (hc : fa[c]? = some (.b (.cls C)) := by rfl) : Mth P w K mg base (He.ga K C) m ps (k + 1) sp st q := by
  obtain ⟨fd, F, kp, b, fu⟩ := T.ok i (d := ⟨fun K => He.ma K (He.ga K C) m, m, q, st⟩) S hb len body hd
  exact ⟨_, fd, F, T.meth j hg, b, T.cls c hc, fu⟩
theorem Tx.ini (T : Tx fa fn K mg base) (i j : Nat) {C q : Str} {st : Stmt} {N ps : List Str} {k : Nat} {sp : Sp} (S : FnScope N ps (defScope st)) (hb : BndOk ⟨fun K => He.ma K (He.ga K C) "__init__", "__init__", q, st⟩ ps) (len : ∀ vs H Q E, sp vs H Q E → vs.length = ps.length)
    (body : BodyOk P w K mg base ⟨fun K => He.ma K (He.ga K C) "__init__", "__init__", q, st⟩ N k sp) (hd : fn[i]? = some ⟨fun K => He.ma K (He.ga K C) "__init__", "__init__", q, st⟩ := by rfl) (hg : fa[j]? = some (.b (.mkr C)) := by rfl) : Ini P w K mg base (He.ga K C) ps (k + 1) sp st q := by
  obtain ⟨fd, F, kp, b, fu⟩ := T.ok i (d := ⟨fun K => He.ma K (He.ga K C) "__init__", "__init__", q, st⟩) S hb len body hd
  exact ⟨_, fd, F, T.mkr j hg, b, fu⟩
theorem Tx.prp (T : Tx fa fn K mg base) (i j c : Nat) {C m q : Str} {st : Stmt} {N : List Str} {k : Nat} {sp : Sp} (S : FnScope N ["self"] (defScope st)) (hb : BndOk ⟨pgA C m, m, q, st⟩ ["self"]) (len : ∀ vs H Q E, sp vs H Q E → vs.length = ["self"].length)
    (body : BodyOk P w K mg base ⟨pgA C m, m, q, st⟩ N k sp) (hd : fn[i]? = some ⟨pgA C m, m, q, st⟩ := by rfl) (hg : fa[j]? = some (.prop C m) := by rfl) (hc : fa[c]? = some (.b (.cls C)) := by rfl) : Prp P w K mg base (He.ga K C) m (k + 1) sp := by
  obtain ⟨fd, F, kp, b, fu⟩ := T.ok i (d := ⟨pgA C m, m, q, st⟩) S hb len body hd
  obtain ⟨p, hp⟩ := T.prop j hg
  exact ⟨p, _, fd, F, hp, b, T.cls c hc⟩
end
section
variable {X : Cx} {x m q : Str} {st : Stmt} {ps : List Str} {k j : Nat} {sp : Sp} {p pos apos : Pos} {e o : Expr} {es : List Expr} {t : TA} {ta : TE} {C : Addr}
theorem pe_f (h : Fk X.prog X.w X.K X.mg X.base x ps k sp st q) (hr : Room j X.A) (ha : PA X (e :: es) t) (hj : k ≤ j := by decide) (hg : Gl X x := by rfl) (hdb : (x == ("__debug__" : Str)) = false := by decide)
    (he : starEach (e :: es) X.env = (false, eval e X.env) :: starEach es X.env := by rfl) (hpl : (backTo pos (starEach es X.env)).any (·.1) = false := by rfl) : PE X (.Call (.Name x p) (e :: es) [] pos) (tCall sp [] E0 t) := by
  obtain ⟨f, fd, F, hm, kp, b, _⟩ := h.ex
  exact pe_call F (hr.mono hj) hg hm kp b .nil pass0 ha hdb he hpl
theorem pe_m {pl : Sem Bool} (ho : PE X o ta) (h : Mth X.prog X.w X.K X.mg X.base C m ps k sp st q) (hr : Room j X.A) (ha : PA X (e :: es) t) (hj : k ≤ j := by decide)
    (hst : starEach (e :: es) X.env = (false, eval e X.env) :: starEach es X.env := by rfl) (hpl : (backTo pos (starEach es X.env)).any (·.1) = false := by rfl)
    (ht : eval (.Call (.Attribute o m apos) (e :: es) [] pos) X.env = (do
      let ov ← eval o X.env
      standAt apos.atName
      let (f, first) ← holding [ov] (getMethod ov m pl)
      callWith pos f first (backTo pos (starEach (e :: es) X.env)) (backToKw pos (keywordEach [] X.env))) := by rfl) : PE X (.Call (.Attribute o m apos) (e :: es) [] pos) (tMeth C m sp [] E0 ta t) := by
  obtain ⟨f, fd, F, hm, b, c, _⟩ := h.ex
  exact pe_meth ho c hm F (hr.mono hj) b .nil pass0 ha hst hpl ht
theorem pe_mk (h : Ini X.prog X.w X.K X.mg X.base C ps k sp st q) (hm : X.mg x = some (.ref C)) (hr : Room j X.A) (ha : PA X (e :: es) t) (hj : k + 1 ≤ j := by decide) (hg : Gl X x := by rfl) (hdb : (x == ("__debug__" : Str)) = false := by decide)
    (he : starEach (e :: es) X.env = (false, eval e X.env) :: starEach es X.env := by rfl) (hpl : (backTo pos (starEach es X.env)).any (·.1) = false := by rfl) : PE X (.Call (.Name x p) (e :: es) [] pos) (tMake C sp [] E0 t) := by
  obtain ⟨f, fd, F, M, b, _⟩ := h.ex
  exact pe_make M F (hr.mono hj) hg hm b .nil pass0 ha hdb he hpl
/-- how keywords bind, by the def's own text -/
def KwOk (x q : Str) (st : Stmt) (ps ks : List Str) (n : Nat) (g : {α : Type} → List α → List α → List α) : Prop :=
  ∀ (kV doc pm : Value) (an : Option Addr) (cdv ct : Value) (us ws : List Value), us.length = n → ws.length = ks.length → bindArgs (PySem.W.fnOf x q (defArgs st) (defBody st) (defScope st) .none kV doc pm an cdv ct) ⟨us, ks.zip ws⟩ = pure (ps.zip (g us ws))
theorem kw_to {K : PySem.W.Frag} {x q : Str} {st : Stmt} {ps ks : List Str} {n : Nat} {g : {α : Type} → List α → List α → List α} {f : Addr} {fd : FuncData} (F : FunD K x q (defArgs st) (defBody st) (defScope st) [] [] f fd) (h : KwOk x q st ps ks n g) :
    ∀ (s : Shared) (us ws : List Value), us.length = n → ws.length = ks.length → BindsTo s fd ⟨us, ks.zip ws⟩ (ps.zip (g us ws)) := by
  obtain ⟨oc, od, dV, kV, doc, pm, an, cdv, ct, osl, rfl, lk, hcd, hD, hK⟩ := F.ex
  intro s us ws h1 h2
  rcases hD with ⟨_, rfl⟩ | ⟨e, _⟩
  · exact .of_eq (h kV doc pm an cdv ct us ws h1 h2)
  · exact absurd rfl e
/-- o.m(k = e, ..) -/
def tMethK (C : Addr) (m : Str) (n : Nat) (sp : Sp) (g : List V → List V → List V) (ta : TE) (tk : TA) : TE := fun σ H Q => ta σ H fun x H1 => ∃ a dx fs, x = .ref a ∧ H1 a = some (.ins C dx fs) ∧ fs.lookup m = none ∧ tk σ H1 fun zs H2 => zs.length = n ∧ sp (g [x] zs) H2 Q E0
theorem pe_pr (he : PE X o ta) (h : Prp X.prog X.w X.K X.mg X.base C x k sp) (hr : Room j X.A) (hj : k + 1 ≤ j := by decide) (hab : attributeBase o x X.env (eval o X.env) = eval o X.env := by rfl) : PE X (.Attribute o x pos) (tProp C sp [] E0 ta) := by
  obtain ⟨p, g, fd, F, hp, b, c⟩ := h.ex
  exact pe_prop he c hp F (hr.mono hj) b .nil pass0 hab
end
set_option Elab.async false
set_option linter.all false
set_option maxRecDepth 100000
set_option maxHeartbeats 4000000
section
variable {X : Cx}
theorem pe_globI {x : Str} {n : Int} {pos : Pos} (h : ∃ t, X.mg x = some (.int n t)) (hg : Gl X x := by rfl) (hd : (x == ("__debug__" : Str)) = false := by decide) : PE X (.Name x pos) (tC (.int n)) := by
  obtain ⟨t, e⟩ := h
  exact pe_glob hg e ⟨t, rfl⟩ hd
end
section
variable {J : It} {n : Nat} {GG : Hp → Prop} {Y : Nat → Hp → V → Hp → Prop} {g : TG} {te : TE} {vs : List Nat} {σ : L2.St} {H1 : Hp} {Q : VK}
theorem Fr.mut {J : List Addr} {H H1 : Hp} {p : Addr} {o : HO} (a : Fr J H H1) (hp : H p = none) : Fr J H (upd H1 p o) := fun x u hx h => by
  rw [upd_ne (ne_of_none h hp)]
  exact a x u hx h
/-- a list made item by item, nothing that stood changed -/
theorem lc_pure (w : Walk J n GG Y) (f : Nat → V) (hn : n ≤ 100000) (hG : ∀ H', Fr [] H1 H' → GG H') (hY : ∀ i H' x H'', Y i H' x H'' → Fr [] H' H'')
    (he : ∀ i x H' H'' (R : VK), i < n → Fr [] H1 H' → Y i H' x H'' → (∀ H4, Fr [] H'' H4 → R (f i) H4) → g x (wipe σ vs) H'' fun σ2 H2 => wipe σ2 vs = wipe σ vs ∧ te σ2 H2 R)
    (hd : ∀ D H', H1 D = none → Fr [] H1 H' → H' D = some (.lst ((List.range n).map f)) → Q (.ref D) H') : LcJ g tYes te vs σ Q J H1 := by
  intro D hD
  refine lc_it w (fun i H' => i ≤ n ∧ Fr [] H1 H' ∧ H' D = some (.lst ((List.range i).map f))) ⟨Nat.zero_le _, (Fr.refl H1).mut hD, upd_same⟩ (fun i H' _ p => hG H' p.2.1) (fun i x H' H'' hi p y => ?_) (fun H' p => hd D H' hD p.2.1 p.2.2)
  obtain ⟨p1, p2, p3⟩ := p
  have hf := hY i H' x H'' y
  refine he i x H' H'' (fun y H4 => ∃ acc, H4 D = some (.lst acc) ∧ acc.length < sizeLine ∧ (i + 1 ≤ n ∧ Fr [] H1 (upd H4 D (.lst (acc ++ [y]))) ∧ (upd H4 D (.lst (acc ++ [y]))) D = some (.lst ((List.range (i + 1)).map f)))) hi p2 y fun H4 e4 => ?_
  have e5 : Fr [] H' H4 := hf.trans e4
  refine ⟨_, e5 _ _ (fun z => nomatch z) p3, ?_, hi, (p2.trans e5).mut hD, ?_⟩
  · rw [List.length_map, List.length_range]
    exact Nat.lt_of_lt_of_le (show i < 100001 by omega) (by decide)
  · rw [upd_same, List.range_succ, List.map_append]
    rfl
end
theorem r_iteY {c A B : Prop} [Decidable c] (hc : c) (h : A) : if decide c = true then A else B := by
  rw [if_pos (decide_eq_true hc)]
  exact h
theorem r_iteZ {c A B : Prop} [Decidable c] (hc : ¬ c) (h : B) : if decide c = true then A else B := by
  rw [if_neg (fun z => hc (of_decide_eq_true z))]
  exact h
theorem r_iteNY {c A B : Prop} [Decidable c] (hc : c) (h : B) : if (!decide c) = true then A else B := iteNS hc h
/-- the i-th number -/
def nth (ns : List Int) (i : Nat) : Int := ns.getD i 0
theorem nth_at {ns : List Int} {i : Nat} {x : V} (h : (ns.map V.int)[i]? = some x) : x = .int (nth ns i) := by
  rw [List.getElem?_map] at h
  unfold nth
  rw [List.getD_eq_getElem?_getD]
  cases e : ns[i]? with
  | none =>
    rw [e] at h
    cases h
  | some z =>
    rw [e] at h
    exact (Option.some.inj h).symm
theorem at_nth {ns : List Int} {i : Nat} (h : i < ns.length) : (ns.map V.int)[i]? = some (.int (nth ns i)) := by
  rw [List.getElem?_map, List.getElem?_eq_getElem h]
  unfold nth
  rw [List.getD_eq_getElem?_getD, List.getElem?_eq_getElem h]
  rfl
theorem getElem_nth {ns : List Int} {i : Nat} (h : i < ns.length) : ns[i] = nth ns i := by
  unfold nth
  rw [List.getD_eq_getElem?_getD, List.getElem?_eq_getElem h]
  rfl
theorem range_nth (ns : List Int) : (List.range ns.length).map (nth ns) = ns := by
  refine List.ext_getElem (by simp) fun i h1 h2 => ?_
  rw [List.getElem_map, List.getElem_range, getElem_nth h2]
theorem range_map (ns : List Int) (g : Int → Int) : (List.range ns.length).map (fun i => V.int (g (nth ns i))) = (ns.map g).map V.int := by
  have e : (fun i => V.int (g (nth ns i))) = (V.int ∘ g) ∘ nth ns := rfl
  rw [e, ← List.map_map, range_nth, List.map_map]
/-- [g(x) for x in a], nothing that stood changed -/
theorem lc_map {K : PySem.W.Frag} {a : Addr} {te : TE} {vs : List Nat} {σ : L2.St} {H1 : Hp} {Q : VK} {k : Nat} {ns : List Int} (g : Int → Int) (ha : SqL K H1 a (ns.map V.int)) (hn : ns.length ≤ 100000) (hw : ∀ x, wipe ((wipe σ vs).set k (some x)) vs = wipe σ vs)
    (he : ∀ i H' (R : VK), i < ns.length → Fr [] H1 H' → (∀ H4, Fr [] H' H4 → R (.int (g (nth ns i))) H4) → te ((wipe σ vs).set k (some (.int (nth ns i)))) H' R)
    (hd : ∀ D H', H1 D = none → Fr [] H1 H' → H' D = some (.lst ((ns.map g).map V.int)) → Q (.ref D) H') : LcJ (gName k) tYes te vs σ Q (Itl K a) H1 := by
  have e1 : (ns.map V.int).length = ns.length := List.length_map _
  refine lc_pure (walk_list (xs := ns.map V.int)) (fun i => .int (g (nth ns i))) (by omega) (fun H' e => e.sql ha (fun z => nomatch z)) (fun i H' x H'' y => by rw [y.1]; exact Fr.refl _) (fun i x H' H'' R hi e y kR => ?_) (fun D H' hD e hD' => ?_)
  · obtain ⟨rfl, hx⟩ := y
    rw [nth_at hx]
    exact ⟨hw _, he i _ R (by omega) e kR⟩
  · rw [e1, range_map] at hD'
    exact hd D H' hD e hD'
theorem cut_last (xs : List V) : cutV xs none (some (-1)) = xs.dropLast := by
  unfold cutV
  rw [List.dropLast_eq_take, show HT.sIx xs.length 0 none = 0 from rfl, List.drop_zero, show HT.sIx xs.length xs.length (some (-1)) = ((-1 : Int) + (xs.length : Int)).toNat from rfl]
  congr 1
  omega
theorem atI_end {ns : List Int} (h : 0 < ns.length) : atI (ns.map V.int) (-1) = some (.int (nth ns (ns.length - 1))) := by
  have e : ns = ns.take (ns.length - 1) ++ [nth ns (ns.length - 1)] := by
    rw [← getElem_nth (show ns.length - 1 < ns.length by omega)]
    have := List.take_append_getElem (l := ns) (i := ns.length - 1) (by omega)
    rw [this, List.take_of_length_le (by omega)]
  have e2 : ns.map V.int = (ns.take (ns.length - 1)).map V.int ++ [.int (nth ns (ns.length - 1))] := by
    rw [show [V.int (nth ns (ns.length - 1))] = [nth ns (ns.length - 1)].map V.int from rfl, ← List.map_append, ← e]
  rw [e2, atI_last]
/-- no number of the first is above its one of the second -/
def leAll (ns ms : List Int) : Bool := (List.range (min ns.length ms.length)).all fun i => decide (nth ns i ≤ nth ms i)
theorem leAll_of {ns ms : List Int} (h : ∀ i, i < ns.length → nth ns i ≤ nth ms i) : leAll ns ms = true := by
  unfold leAll
  refine List.all_eq_true.mpr fun i hi => decide_eq_true (h i ?_)
  have := List.mem_range.mp hi
  omega
section
variable {X : Cx} {C : Addr} {k : Nat}
abbrev rNeP (C : Addr) (sp : Sp) : R2 := fun x y H Q => ∃ a dx fs b dy gs, x = .ref a ∧ y = .ref b ∧ H a = some (.ins C dx fs) ∧ H b = some (.ins C dy gs) ∧ sp [.ref a, .ref b] H (fun v H' => ∃ r, v = .bl r ∧ Q (.bl (!r)) H') E0
end
section
variable {prog : Program} {w : World} {A : Around} {E : Value → Shared → Prop} {s : Shared} {K : PySem.W.Frag} {x y C f : Addr} {ox oy : Obj} {od od' : Option Obj}
open PySem.W in
theorem ne_body {Q : Fin → Shared → Prop} (hu : A.units < cLine) (X : K.In s.heap) (I : InstAt s.heap x ox C od) (he : findIn K (.ref C) "__eq__" = some (some (.ref f))) (hf : isFn K (.ref f) = true)
    (h : wpAny (model prog w) A (call (.ref f) [.ref x, .ref y]) (fun v s' => ∃ b, v = .bool b ∧ Q (.done (.ret (.bool (!b)))) s') E s) : wpAny (model prog w) A (Builtin.«object.__ne__» ⟨[.ref x, .ref y], []⟩) Q E s := by
  obtain ⟨hp, g, d, t, os⟩ := s
  unfold Builtin.«object.__ne__»
  repeat (first
    | with_reducible refine wpAny_cRoomFor hu ?_
    | (refine wpAny_bind (m := callSpecialIfBound? (.ref x) (Str.ofString "__eq__") [.ref y]) (ifBound_K X I he hf (wpAny_mono h (fun r s' hr => ?_) fun _ _ e => e)); obtain ⟨b, rfl, hq⟩ := hr)
    | (refine wpAny_bind (m := truthy (.bool _)) (wpAny_truthy_bool ?_))
    | exact hq | exact wpAny_pure hq
    | wp_step)
open PySem.W in
theorem bound_B {B id : String} {nm : Str} {M : Model} {args : List Value} {Q : Option Value → Shared → Prop} (S : Slot B nm id) (X : K.In s.heap) (I : InstAt s.heap x ox C od) (hn : findIn K (.ref C) nm = some (some (.builtin id)))
    (h : wpAny M A (call (.builtin id) (.ref x :: args)) (fun v s' => Q (some v) s') E s) : wpAny M A (callSpecialIfBound? (.ref x) nm args) Q E s := by
  have go : wpAny M A (call (.builtin id) ([.ref x] ++ args) >>= fun v => pure (some v)) Q E s := wpAny_bind (wpAny_mono h (fun v s' q => wpAny_pure q) fun _ _ q => q)
  simp only [bindSpecialIfBound?, callSpecialIfBound?]
  apply wpAny_holding
  refine wpAny_bind (wpAny_bind (wpAny_bind (I.type.here ((looks_findIn X hn).here ?_))))
  simp only [S.bind]
  apply wpAny_bind
  refine wpAny_askSetting (wpAny_ite ?_)
  split
  · refine wpAny_bind (wpAny_pure (wpAny_pure ?_))
    exact go
  · refine wpAny_tryCatch (wpAny_bind (wpAny_pure (wpAny_pure ?_)))
    exact go
open PySem.W in
theorem ne_try {Q : Option Value → Shared → Prop} (hu : A.units + 1 < cLine) (X : K.In s.heap) (I : InstAt s.heap x ox C od) (hn : findIn K (.ref C) "__ne__" = some (some (.builtin "object.__ne__"))) (hm : mroIn K C (.type "object") = some true)
    (he : findIn K (.ref C) "__eq__" = some (some (.ref f))) (hf : isFn K (.ref f) = true)
    (h : wpAny (model prog w) A.in1 (call (.ref f) [.ref x, .ref y]) (fun v s' => ∃ b, v = .bool b ∧ Q (some (.bool (!b))) s') E s) : wpAny (model prog w) A (tryCompare (.ref x) "__ne__" (.ref y)) Q E s := by
  have S := F.cmp_object.ne
  have sub : Looks (model prog w) s.heap (isInstance (.ref x) (.type "object")) true := I.type.andThen (looks_mroIn X hm)
  unfold tryCompare
  refine wpAny_bind (bound_B S X I hn ?_)
  refine wpAny_call (codeAny_call_builtin S.plain F.cmpEntry_ne (check_slot F.cmpKind_ne F.cmpSplit_ne sub (F.cmpArgs_ne _ _) ?_))
  refine ne_body (A := A.in1) hu X I he hf (wpAny_mono h (fun v s' hv => ?_) fun _ _ e => e)
  obtain ⟨b, e, q⟩ := hv
  exact ⟨b, e, wpAny_pure q⟩
open PySem.W in
theorem ne_K {h₀ : Heap} {L : Addr} {m : Str → Option Value} {Q : Value → Shared → Prop} (hu : A.units + 1 < cLine) (X : K.In s.heap) (I : InstAt s.heap x ox C od) (J : InstAt s.heap y oy C od') (hn : findIn K (.ref C) "__ne__" = some (some (.builtin "object.__ne__"))) (hm : mroIn K C (.type "object") = some true)
    (he : findIn K (.ref C) "__eq__" = some (some (.ref f))) (hf : isFn K (.ref f) = true)
    (h : wpAny (model prog w) A.in1 (call (.ref f) [.ref x, .ref y]) (fun v s' => ∃ b, v = .bool b ∧ Q (.bool (!b)) s') E s) : wpAny (model prog w) A (richCompare .NotEq (.ref x) (.ref y)) Q E s := by
  unfold richCompare
  simp only [oneThing_ref]
  refine wpAny_holding (wpAny_bind (wpAny_cRoomFor (Nat.lt_of_succ_lt hu) (wpAny_bind (I.type.here (wpAny_bind (J.type.here ?_))))))
  rw [show (Value.ref C != Value.ref C) = false by simp]
  have go := ne_try (Q := fun r s' => ∃ b, r = some (.bool b) ∧ Q (.bool b) s') hu X I hn hm he hf (wpAny_mono h (fun v s' hv => by
    obtain ⟨b, e, q⟩ := hv
    exact ⟨b, e, _, rfl, q⟩) fun _ _ e => e)
  simp only [Bool.false_eq_true, if_false]
  refine wpAny_bind (wpAny_pure ?_)
  simp only [Bool.false_eq_true, if_false]
  refine wpAny_bind (wpAny_mono go (fun r s' z => ?_) fun _ _ e => e)
  obtain ⟨b, rfl, q⟩ := z
  exact wpAny_pure q
end
section
variable {X : Cx} {C : Addr} {k : Nat}
theorem op_neP {sp : Sp} {st0 : Stmt} {q0 : Str} (h : Mth X.prog X.w X.K X.mg X.base C "__eq__" ["self", "other"] k sp st0 q0) (hn : PySem.W.findIn X.K (.ref C) "__ne__" = some (some (.builtin "object.__ne__"))) (hm : PySem.W.mroIn X.K C (.type "object") = some true) (hr0 : Room (k + 1) X.A) : OpR X (compareOp .NotEq) (rNeP C sp) := by
  intro pins s σ H x y v u Q I rx ry hq
  obtain ⟨f, fd, F, hm1, b0, cl, _⟩ := h.ex
  obtain ⟨a, dx, fs, b, dy, gs, rfl, rfl, ha, hb, hsp⟩ := hq
  cases rx
  cases ry
  have hr : Room k X.A.in1 := hr0.in1
  obtain ⟨mA, J, _⟩ := ins_get I.hok ha
  obtain ⟨mB, J', _⟩ := ins_get I.hok hb
  obtain ⟨od, J, _⟩ := J.look
  obtain ⟨od', J', _⟩ := J'.look
  show wpAny (model X.prog X.w) X.A (richCompare .NotEq (.ref a) (.ref b)) _ _ s
  refine ne_K (h₀ := X.base) (L := 0) (m := fun _ => none) (by have := hr0.units; omega) I.kIn J J' hn hm hm1.at_ hm1.fn (wpAny_call ?_)
  refine codeAny_mono (F.run X.A.in1 X.stack s H ⟨[.ref a, .ref b], []⟩ [.ref a, .ref b] [.ref a, .ref b] _ E0 hr I.env0.in1 (by simpa using b0 s [.ref a, .ref b] I.kIn rfl) (.cons rfl (.cons rfl .nil)) hsp) fun r s' hq => ?_
  cases r with
  | error e => exact hq.elim
  | ok fl =>
    cases fl with
    | ret w =>
      obtain ⟨z, H', I', rz, r, ez, q⟩ := I.after hq
      subst ez
      cases rz
      exact ⟨r, rfl, .bl (!r), H', I', rfl, q⟩
    | next => exact False.elim hq
    | brk => exact False.elim hq
    | cont => exact False.elim hq
end
set_option Elab.async false
set_option linter.all false
set_option maxRecDepth 100000
set_option maxHeartbeats 4000000
structure BagB (ns : List Int) (b c d : Int) (n : Nat) : Prop where
  len : ns.length ≤ 63
  all : ∀ x ∈ ns, 0 ≤ x
  b0 : 0 ≤ b
  c0 : 0 ≤ c
  c1 : c < 2 ^ 31
  d0 : 0 ≤ d
  d1 : d + 100 * n ≤ 100000000
abbrev BagO (ls : Addr) (i : Nat) (b c d : Int) : HO := .lst [.ref ls, .int (i : Nat), .int b, .int c, .int d]
def JarAt (ls : Addr) (H : Hp) (j : Addr) (n : Nat) : Prop := ∃ (ns : List Int) (i : Nat) (b c d : Int), H j = some (BagO ls i b c d) ∧ H ls = some (.lst (ns.map V.int)) ∧ ls ≠ j ∧ i ≤ ns.length ∧ BagB ns b c d n
theorem JarAt.le {ls : Addr} {H : Hp} {j : Addr} {n m : Nat} (h : JarAt ls H j n) (l : m ≤ n) : JarAt ls H j m := by
  obtain ⟨ns, i, b, c, d, e, e2, nj, hi, q⟩ := h
  exact ⟨ns, i, b, c, d, e, e2, nj, hi, q.len, q.all, q.b0, q.c0, q.c1, q.d0, by have := q.d1; omega⟩
theorem JarAt.fr {ls : Addr} {H H' : Hp} {j : Addr} {n : Nat} (h : JarAt ls H j n) (f : Fr [] H H') : JarAt ls H' j n := by
  obtain ⟨ns, i, b, c, d, e, e2, nj, hi, q⟩ := h
  exact ⟨ns, i, b, c, d, f _ _ (fun z => nomatch z) e, f _ _ (fun z => nomatch z) e2, nj, hi, q⟩
theorem JarAt.ne {ls : Addr} {H : Hp} {j p : Addr} {n : Nat} (h : JarAt ls H j n) (hp : H p = none) : p ≠ j := fun e => by
  obtain ⟨ns, i, b, c, d, e1, _⟩ := h
  rw [e, e1] at hp
  cases hp
theorem JarAt.some {ls : Addr} {H : Hp} {j : Addr} {n : Nat} (h : JarAt ls H j n) : ∃ o, H j = some o := by
  obtain ⟨ns, i, b, c, d, e, _⟩ := h
  exact ⟨_, e⟩
theorem JarAt.sls {ls : Addr} {H : Hp} {j : Addr} {n : Nat} (h : JarAt ls H j n) : ∃ o, H ls = Option.some o := by
  obtain ⟨ns, i, b, c, d, _, e, _⟩ := h
  exact ⟨_, e⟩
/-- the known heap beside the jar -/
structure ZJ (ls : Addr) (H0 H : Hp) (j : Addr) (n : Nat) (E : List En) : Prop where
  jar : JarAt ls H j n
  nd : (E.map (·.2.1)).Nodup
  at_ : ∀ q ∈ E, H q.2.1 = some q.2.2
  ne : ∀ q ∈ E, q.2.1 ≠ j
  two : ∀ q ∈ E, q.1 = 2
  fresh : ∀ q ∈ E, H0 q.2.1 = none
  fr : Fr [j] H0 H
  old : ∃ o, H0 ls = Option.some o
section
variable {ls : Addr} {H0 H H' : Hp} {j : Addr} {n : Nat} {E : List En}
theorem ZJ.start (h : JarAt ls H j n) : ZJ ls H H j n [] := ⟨h, List.nodup_nil, (fun _ m => nomatch m), (fun _ m => nomatch m), (fun _ m => nomatch m), (fun _ m => nomatch m), Fr.refl H, h.sls⟩
theorem ZJ.get (z : ZJ ls H0 H j n E) {t : Nat} {a : Addr} {o : HO} (h : (t, a, o) ∈ E) : H a = some o := z.at_ _ h
theorem ZJ.keep (z : ZJ ls H0 H j n E) {a : Addr} {o : HO} (h : H0 a = some o) (n : a ≠ j) : H a = some o := z.fr _ _ (fun m => by
  rcases List.mem_cons.mp m with e | m
  · exact n e
  · cases m) h
theorem ZJ.none (z : ZJ ls H0 H j n E) {p : Addr} (hp : H p = none) : H0 p = none := by
  cases e : H0 p with
  | none => rfl
  | some o =>
    rw [z.keep e (z.jar.ne hp)] at hp
    cases hp
theorem ZJ.alloc (z : ZJ ls H0 H j n E) {p : Addr} (o : HO) (hp : H p = Option.none) : ZJ ls H0 (upd H p o) j n ((2, p, o) :: E) := by
  have hn : ∀ q ∈ E, q.2.1 ≠ p := fun q hq => ne_of_none (z.at_ q hq) hp
  have hj := z.jar.ne hp
  refine ⟨z.jar.fr ((Fr.refl H).new hp), ?_, fun q hq => ?_, fun q hq => ?_, fun q hq => ?_, fun q hq => ?_, z.fr.new hp, z.old⟩
  · rw [List.map_cons, List.nodup_cons]
    refine ⟨fun m => ?_, z.nd⟩
    obtain ⟨q, hq, e⟩ := List.mem_map.mp m
    exact hn q hq e
  all_goals rcases List.mem_cons.mp hq with rfl | hq
  · exact upd_same
  · rw [upd_ne (hn q hq)]
    exact z.at_ q hq
  · exact hj
  · exact z.ne q hq
  · rfl
  · exact z.two q hq
  · exact z.none hp
  · exact z.fresh q hq
theorem ZJ.other (z : ZJ ls H0 H j n E) {i k : Nat} {q r : En} (hi : E[i]? = some q) (hk : E[k]? = some r) (h : k ≠ i) : r.2.1 ≠ q.2.1 := fun e => by
  have h1 : (E.map (·.2.1))[i]? = some q.2.1 := by rw [List.getElem?_map, hi] <;> rfl
  have h2 : (E.map (·.2.1))[k]? = some r.2.1 := by rw [List.getElem?_map, hk] <;> rfl
  rw [e] at h2
  obtain ⟨g1, e1⟩ := List.getElem?_eq_some_iff.mp h1
  obtain ⟨g2, e2⟩ := List.getElem?_eq_some_iff.mp h2
  exact h ((List.getElem_inj z.nd).mp (e2.trans e1.symm))
/-- a store to the i-th entry -/
theorem ZJ.set (z : ZJ ls H0 H j n E) (i : Nat) {t : Nat} {a : Addr} {o : HO} (o' : HO) (hi : E[i]? = some (t, a, o)) : ZJ ls H0 (upd H a o') j n (E.set i (t, a, o')) := by
  have hin := List.mem_of_getElem? hi
  have haj := z.ne _ hin
  have hal : ls ≠ a := fun x => by
    have h1 := z.fresh _ hin
    obtain ⟨o1, h2⟩ := z.old
    rw [x] at h2
    rw [h2] at h1
    cases h1
  refine ⟨?_, ?_, fun q hq => ?_, fun q hq => ?_, fun q hq => ?_, fun q hq => ?_, ?_, z.old⟩
  · obtain ⟨ns, i, b, c, d, e, e2, nj, hi, q⟩ := z.jar
    exact ⟨ns, i, b, c, d, by rw [upd_ne haj.symm]; exact e, by rw [upd_ne hal]; exact e2, nj, hi, q⟩
  · rw [map_set_same hi]
    exact z.nd
  · rcases mem_set_of hq with rfl | ⟨k, hk, e⟩
    · exact upd_same
    · rw [upd_ne (z.other hi e hk)]
      exact z.at_ q (List.mem_of_getElem? e)
  · rcases mem_set_of hq with rfl | ⟨k, hk, e⟩
    · exact haj
    · exact z.ne q (List.mem_of_getElem? e)
  · rcases mem_set_of hq with rfl | ⟨k, hk, e⟩
    · exact z.two (t, a, o) hin
    · exact z.two q (List.mem_of_getElem? e)
  · rcases mem_set_of hq with rfl | ⟨k, hk, e⟩
    · exact z.fresh (t, a, o) hin
    · exact z.fresh q (List.mem_of_getElem? e)
  · exact z.fr.mut (z.fresh _ hin)
/-- behind draws -/
theorem ZJ.dips (z : ZJ ls H0 H j n E) {m : Nat} (f : Fr [j] H H') (h : JarAt ls H' j m) : ZJ ls H0 H' j m E :=
  ⟨h, z.nd, fun q hq => f _ _ (fun s => by
    rcases List.mem_cons.mp s with e | s
    · exact z.ne q hq e
    · cases s) (z.at_ q hq), z.ne, z.two, z.fresh, z.fr.trans f, z.old⟩
/-- behind a call that draws and makes N -/
theorem ZJ.call (z : ZJ ls H0 H j n E) {m : Nat} {N : List (Addr × HO)} (f : Fr [j] H H') (h : JarAt ls H' j m) (w : New H H' N) : ZJ ls H0 H' j m (N.map (fun q => ((2, q.1, q.2) : En)) ++ E) := by
  have y := z.dips f h
  refine ⟨h, ?_, fun q hq => ?_, fun q hq => ?_, fun q hq => ?_, fun q hq => ?_, y.fr, z.old⟩
  · rw [List.map_append, List.nodup_append]
    refine ⟨?_, z.nd, fun x hx r hr e => ?_⟩
    · rw [List.map_map]
      exact w.1.1
    · obtain ⟨q, hq, rfl⟩ := List.mem_map.mp hx
      obtain ⟨q', hq', rfl⟩ := List.mem_map.mp hq
      obtain ⟨u, hu, rfl⟩ := List.mem_map.mp hr
      exact ne_of_none (z.at_ u hu) (w.2 q' hq') e.symm
  all_goals rcases List.mem_append.mp hq with hq | hq
  · obtain ⟨q', hq', rfl⟩ := List.mem_map.mp hq
    exact w.1.2 q' hq'
  · exact y.at_ q hq
  · obtain ⟨q', hq', rfl⟩ := List.mem_map.mp hq
    exact z.jar.ne (w.2 q' hq')
  · exact z.ne q hq
  · obtain ⟨q', hq', rfl⟩ := List.mem_map.mp hq
    rfl
  · exact z.two q hq
  · obtain ⟨q', hq', rfl⟩ := List.mem_map.mp hq
    exact z.none (w.2 q' hq')
  · exact z.fresh q hq
theorem ZJ.call0 (z : ZJ ls H0 H j n E) {N : List (Addr × HO)} (f : Fr [] H H') (w : New H H' N) : ZJ ls H0 H' j n (N.map (fun q => ((2, q.1, q.2) : En)) ++ E) := z.call f.up0 (z.jar.fr f) w
theorem new1 {D : Addr} {o : HO} (h0 : H D = Option.none) (h1 : H' D = some o) : New H H' [(D, o)] := by
  refine ⟨⟨List.nodup_cons.mpr ⟨(fun m => nomatch m), List.nodup_nil⟩, fun q hq => ?_⟩, fun q hq => ?_⟩
  all_goals
    rcases List.mem_cons.mp hq with rfl | hq
    · assumption
    · cases hq
theorem ZJ.comp (z : ZJ ls H0 H j n E) {D : Addr} {o : HO} (f : Fr [] H H') (h0 : H D = Option.none) (h1 : H' D = some o) : ZJ ls H0 H' j n ((2, D, o) :: E) := z.call0 (N := [(D, o)]) f (new1 h0 h1)
theorem ZJ.same (z : ZJ ls H0 H j n E) (f : Fr [] H H') : ZJ ls H0 H' j n E := z.dips f.up0 (z.jar.fr f)
theorem ZJ.sub (z : ZJ ls H0 H j n E) {E' : List En} (s : E'.Sublist E) : ZJ ls H0 H j n E' :=
  ⟨z.jar, (s.map _).nodup z.nd, fun q hq => z.at_ q (s.subset hq), fun q hq => z.ne q (s.subset hq), fun q hq => z.two q (s.subset hq), fun q hq => z.fresh q (s.subset hq), z.fr, z.old⟩
theorem ZJ.perm (z : ZJ ls H0 H j n E) {E' : List En} (s : E'.Perm E) : ZJ ls H0 H j n E' :=
  ⟨z.jar, (s.map _).nodup_iff.mpr z.nd, fun q hq => z.at_ q (s.subset hq), fun q hq => z.ne q (s.subset hq), fun q hq => z.two q (s.subset hq), fun q hq => z.fresh q (s.subset hq), z.fr, z.old⟩
theorem ZJ.le (z : ZJ ls H0 H j n E) {m : Nat} (l : m ≤ n) : ZJ ls H0 H j m E := ⟨z.jar.le l, z.nd, z.at_, z.ne, z.two, z.fresh, z.fr, z.old⟩
theorem pick_mem {E : List En} : ∀ (is : List Nat) (N : List (Addr × HO)), is.map (fun i => E[i]?) = N.map (fun q => some ((2, q.1, q.2) : En)) → ∀ q ∈ N, ∃ i ∈ is, E[i]? = some (2, q.1, q.2)
  | [], [], _, q, hq => nomatch hq
  | [], _ :: _, e, _, _ => by cases e
  | _ :: _, [], e, _, _ => by cases e
  | i :: is, p :: N, e, q, hq => by
    rw [List.map_cons, List.map_cons, List.cons.injEq] at e
    rcases List.mem_cons.mp hq with rfl | hq
    · exact ⟨i, List.mem_cons_self, e.1⟩
    · obtain ⟨k, hk, h⟩ := pick_mem is N e.2 q hq
      exact ⟨k, List.mem_cons_of_mem _ hk, h⟩
theorem pick_nd {ls : Addr} {H0 H : Hp} {j : Addr} {n : Nat} {E : List En} (z : ZJ ls H0 H j n E) : ∀ (is : List Nat) (N : List (Addr × HO)), is.Nodup → is.map (fun i => E[i]?) = N.map (fun q => some ((2, q.1, q.2) : En)) → (N.map (·.1)).Nodup
  | [], [], _, _ => List.nodup_nil
  | [], _ :: _, _, e => by cases e
  | _ :: _, [], _, e => by cases e
  | i :: is, p :: N, nd, e => by
    rw [List.map_cons, List.map_cons, List.cons.injEq] at e
    rw [List.nodup_cons] at nd
    rw [List.map_cons, List.nodup_cons]
    refine ⟨fun m => ?_, pick_nd z is N nd.2 e.2⟩
    obtain ⟨q, hq, e1⟩ := List.mem_map.mp m
    obtain ⟨k, hk, h⟩ := pick_mem is N e.2 q hq
    exact z.other e.1 h (fun x => nd.1 (x ▸ hk)) e1
/-- of what is known the entries at these places -/
theorem ZJ.pick {ls : Addr} {H0 H : Hp} {j : Addr} {n : Nat} {E : List En} (z : ZJ ls H0 H j n E) {N : List (Addr × HO)} (is : List Nat) (e : is.map (fun i => E[i]?) = N.map (fun q => some ((2, q.1, q.2) : En))) (nd : is.Nodup := by decide) : New H0 H N :=
  ⟨⟨pick_nd z is N nd e, fun q hq => by
    obtain ⟨i, _, h⟩ := pick_mem is N e q hq
    exact z.at_ _ (List.mem_of_getElem? h)⟩, fun q hq => by
    obtain ⟨i, _, h⟩ := pick_mem is N e q hq
    exact z.fresh _ (List.mem_of_getElem? h)⟩
end
/-- [draw for _ in range(n)], c draws an item -/
theorem lc_draw {J : It} (p : Int → Prop) {n c m : Nat} {f : Nat → V} {g : TG} {te : TE} {vs : List Nat} {σ : L2.St} {Q : VK} {ls : Addr} {H0 H1 : Hp} {j : Addr} {E : List En} (w : Walk J n (fun _ => True) (YFn f)) (hn : n ≤ 10000) (z : ZJ ls H0 H1 j (m + c * n) E)
    (he : ∀ (i : Nat) (H' : Hp) (D : Addr) (ns : List Int) (R : VK), i < n → ns.length = i → ZJ ls H0 H' j (m + c * (n - i)) ((2, D, .lst (ns.map V.int)) :: E) → (∀ (x : Int) (G : Hp), p x → ZJ ls H0 G j (m + c * (n - (i + 1))) ((2, D, .lst (ns.map V.int)) :: E) → R (.int x) G) →
      g (f i) (wipe σ vs) H' fun σ2 H2 => wipe σ2 vs = wipe σ vs ∧ te σ2 H2 R)
    (hd : ∀ (D : Addr) (ns : List Int) (H' : Hp), ns.length = n → (∀ x ∈ ns, p x) → ZJ ls H0 H' j m ((2, D, .lst (ns.map V.int)) :: E) → Q (.ref D) H') : LcJ g tYes te vs σ Q J H1 := by
  intro D hD
  refine lc_it w (fun i H' => i ≤ n ∧ ∃ ns : List Int, ns.length = i ∧ (∀ x ∈ ns, p x) ∧ ZJ ls H0 H' j (m + c * (n - i)) ((2, D, .lst (ns.map V.int)) :: E)) ⟨Nat.zero_le _, [], rfl, (fun _ m => nomatch m), z.alloc (.lst []) hD⟩ (fun i H' _ _ => trivial) (fun i x H' H'' hi p y => ?_) (fun H' p => ?_)
  · obtain ⟨p1, ns, p2, pp, p3⟩ := p
    obtain ⟨rfl, rfl⟩ := y
    refine he i H'' D ns (fun y H4 => ∃ acc, H4 D = some (.lst acc) ∧ acc.length < sizeLine ∧ (i + 1 ≤ n ∧ ∃ ns : List Int, ns.length = i + 1 ∧ (∀ x ∈ ns, p x) ∧ ZJ ls H0 (upd H4 D (.lst (acc ++ [y]))) j (m + c * (n - (i + 1))) ((2, D, .lst (ns.map V.int)) :: E))) hi p2 p3 fun x G px q => ?_
    refine ⟨ns.map V.int, q.get (.head _), ?_, hi, ns ++ [x], by rw [List.length_append, p2] <;> rfl, (fun y hy => (List.mem_append.mp hy).elim (pp y) fun h => (List.mem_singleton.mp h) ▸ px), ?_⟩
    · rw [List.length_map, p2]
      exact Nat.lt_of_lt_of_le (show i < 100001 by omega) (by decide)
    · rw [List.map_append]
      exact q.set 0 _ rfl
  · obtain ⟨p1, ns, p2, pp, p3⟩ := p
    exact hd D ns H' p2 pp (by
      rw [Nat.sub_self] at p3
      exact p3)
theorem min_ex : ∀ {ns : List Int}, 0 < ns.length → ∃ m, m ∈ ns ∧ ∀ y, y ∈ ns → m ≤ y
  | [], h => absurd h (by decide)
  | [a], _ => ⟨a, List.mem_cons_self, fun y hy => by rcases List.mem_cons.mp hy with rfl | hy; exact Int.le_refl _; cases hy⟩
  | a :: b :: r, _ => by
    obtain ⟨m, h1, h2⟩ := min_ex (ns := b :: r) (by simp)
    rcases Int.le_total a m with h | h
    · exact ⟨a, List.mem_cons_self, fun y hy => by
        rcases List.mem_cons.mp hy with rfl | hy
        · exact Int.le_refl _
        · exact Int.le_trans h (h2 y hy)⟩
    · exact ⟨m, List.mem_cons_of_mem _ h1, fun y hy => by
        rcases List.mem_cons.mp hy with rfl | hy
        · exact h
        · exact h2 y hy⟩
theorem r_minM {K : PySem.W.Frag} {H : Hp} {Q : VK} {a : Addr} {ns : List Int} {m : Int} (h : SqL K H a (ns.map V.int)) (h1 : m ∈ ns) (h2 : ∀ y, y ∈ ns → m ≤ y) (q : Q (.int m) H) : rMin K [.ref a] H Q :=
  ⟨a, ns, rfl, h, List.length_pos_of_mem h1, fun m' g1 g2 => by rw [Int.le_antisymm (g2 _ h1) (h2 _ g1)]; exact q⟩
theorem nth_map {ns : List Int} {g : Int → Int} {i : Nat} (h : i < ns.length) : nth (ns.map g) i = g (nth ns i) := by
  unfold nth
  rw [List.getD_eq_getElem?_getD, List.getD_eq_getElem?_getD, List.getElem?_map, List.getElem?_eq_getElem h]
  rfl
theorem nth_mem {ns : List Int} {i : Nat} (h : i < ns.length) : nth ns i ∈ ns := by
  rw [← getElem_nth h]
  exact List.getElem_mem h
set_option Elab.async false
set_option linter.all false
set_option maxRecDepth 100000
set_option maxHeartbeats 2000000
def ItS (K : PySem.W.Frag) (c : Int) (a : Addr) : It where
  go := (Ite K a).go
  stop := (Ite K a).stop
  yld := fun i H v H' => ∃ (T : Addr) (x : V), v = .ref T ∧ H T = none ∧
    H' = upd H T (.tup [.int (c + (i : Int)), x]) ∧
    ∀ xs, SqL K H a xs → xs[i]? = some x
/-- reading: enumerate(e, start=c) -/
def iEnumS (K : PySem.W.Frag) (c : Int) (ta : TE) : TI := fun σ H R => ta σ H fun v H1 => ∃ a xs, v = .ref a ∧ SqL K H1 a xs ∧ R (ItS K c a) H1
theorem r_ienumS {K : PySem.W.Frag} {c : Int} {te : TE} {σ : L2.St} {H : Hp} {R : It → Hp → Prop} (h : te σ H fun v H1 => ∃ a xs, v = .ref a ∧ SqL K H1 a xs ∧ R (ItS K c a) H1) : iEnumS K c te σ H R := h
theorem r_methK {σ : L2.St} {H : Hp} {Q : VK} {C : Addr} {m : Str} {n : Nat} {sp : Sp} {g : List V → List V → List V} {ta : TE} {tk : TA}
    (h : ta σ H fun x H1 => ∃ a dx fs, x = .ref a ∧ H1 a = some (.ins C dx fs) ∧ fs.lookup m = none ∧ tk σ H1 fun zs H2 => zs.length = n ∧ sp (g [x] zs) H2 Q E0) : tMethK C m n sp g ta tk σ H Q := h
set_option Elab.async false
set_option linter.all false
set_option maxRecDepth 100000
set_option maxHeartbeats 4000000
abbrev rLenP (C : Addr) (sp : Sp) : List V → Hp → VK → Prop := fun xs H Q => ∃ a dx fs, xs = [.ref a] ∧ H a = some (.ins C dx fs) ∧ sp [.ref a] H (fun v H' => ∃ n : Nat, v = .int n ∧ n < 1000000 ∧ Q (.int n) H') E0
section
variable {X : Cx} {C : Addr} {k : Nat}
theorem cr_lenP {sp : Sp} {st0 : Stmt} {q0 : Str} (h : Mth X.prog X.w X.K X.mg X.base C "__len__" ["self"] k sp st0 q0) (hr0 : Room (k + 1) X.A) : CallR X (.builtin "len") (rLenP C sp) := by
  intro pins s σ H xs us Q I r hq
  obtain ⟨f, fd, F, hm1, b0, cl, _⟩ := h.ex
  obtain ⟨a, dx, fs, rfl, ha, hsp⟩ := hq
  obtain ⟨u, rfl, rx⟩ := vals1 r
  cases rx
  have hr : Room k X.A.in1 := hr0.in1
  obtain ⟨mA, J, _⟩ := ins_get I.hok ha
  obtain ⟨od, J, _⟩ := J.look
  obtain ⟨m, hF⟩ := I.fr
  refine PySem.W.len_K hF I.ok.mod.kin J hm1.at_ hm1.fn (wpAny_call ?_)
  refine codeAny_mono (F.run X.A.in1 X.stack s H ⟨[.ref a], []⟩ [.ref a] [.ref a] _ E0 hr I.env0.in1 (by simpa using b0 s [.ref a] I.kIn rfl) (.cons rfl .nil) hsp) fun r s' hq => ?_
  cases r with
  | error e => exact hq.elim
  | ok fl =>
    cases fl with
    | ret w =>
      obtain ⟨z, H', I', rz, n, ez, hn, q⟩ := I.after hq
      subst ez
      obtain ⟨t, rfl⟩ := rz
      exact ⟨⟨by omega, by omega⟩, .int n, H', I'.tok _, ⟨_, rfl⟩, q⟩
    | next => exact False.elim hq
    | brk => exact False.elim hq
    | cont => exact False.elim hq
end
abbrev rMax3 : List V → Hp → VK → Prop := rNuC3 nuMax3
abbrev rMin3 : List V → Hp → VK → Prop := rNuC3 nuMin3
theorem r_max3 {H : Hp} {Q : VK} {i j k m : Int} (e : m = max (max i j) k) (q : Q (.int m) H) : rMax3 [.int i, .int j, .int k] H Q := by
  refine ⟨_, _, _, .int m, rfl, ?_, q⟩
  subst e
  have two : ∀ a b : Int, nuMax2 (.int a) (.int b) = some (.int (max a b)) := fun a b => by
    show some (if decide (a < b) = true then V.int b else V.int a) = _
    by_cases h : a < b
    · rw [if_pos (decide_eq_true h), Int.max_eq_right (Int.le_of_lt h)]
    · rw [if_neg (by simpa using h), Int.max_eq_left (by omega)]
  unfold nuMax3
  rw [two]
  exact two _ _
theorem r_min3 {H : Hp} {Q : VK} {i j k m : Int} (e : m = min (min i j) k) (q : Q (.int m) H) : rMin3 [.int i, .int j, .int k] H Q := by
  refine ⟨_, _, _, .int m, rfl, ?_, q⟩
  subst e
  have two : ∀ a b : Int, nuMin2 (.int a) (.int b) = some (.int (min a b)) := fun a b => by
    show some (if decide (b < a) = true then V.int b else V.int a) = _
    by_cases h : b < a
    · rw [if_pos (decide_eq_true h), Int.min_eq_right (Int.le_of_lt h)]
    · rw [if_neg (by simpa using h), Int.min_eq_left (by omega)]
  unfold nuMin3
  rw [two]
  exact two _ _
section
variable {K : PySem.W.Frag} {H : Hp} {Q : VK} {a : Addr} {σ : L2.St}
theorem r_sum {ns : List Int} (h : SqL K H a (ns.map V.int)) (q : Q (.int ns.sum) H) : rSum K [.ref a] H Q := ⟨a, ns, rfl, h, q⟩
theorem r_glst {k : Nat} {T : TGs} {R : L2.St → Hp → Prop} {xs : List V} (h : SqL K H a xs) (e : xs.length = k) (q : T xs σ H R) : gLst K k T (.ref a) σ H R := ⟨a, xs, rfl, h, e, q⟩
theorem r_notIn {x : V} {xs : List V} {b : Bool} (h : SqL K H a xs ∨ SqT K H a xs) (f : flatV x = true) (fs : xs.all flatV = true) (e : inV x xs = b) (q : Q (.bl (!b)) H) : rIn K true x (.ref a) H Q := by
  subst e
  exact ⟨a, xs, rfl, h, f, fs, q⟩
end
theorem r_par3 {σ : L2.St} {H : Hp} {D : Ends} {tas : TA} {i j l : Nat} (h : tas σ H fun vs H1 => ∃ u v w, vs = [u, v, w] ∧ D.nx (((σ.set i (some u)).set j (some v)).set l (some w)) H1) : tPar3 i j l tas D σ H := h
theorem r_expar3 {x y z : V} {R : V → V → V → Prop} (h : R x y z) : ∃ u v w, [x, y, z] = [u, v, w] ∧ R u v w := ⟨x, y, z, rfl, h⟩
set_option Elab.async false
set_option linter.all false
set_option maxRecDepth 100000
set_option maxHeartbeats 4000000
set_option Elab.async false
set_option linter.all false
set_option maxRecDepth 100000
set_option maxHeartbeats 4000000
abbrev IsSeqT (h : Heap) (T : Addr) (xs : Array Value) : Prop := h.get? T = some { cls := .type "tuple", data := .seq xs }
/-- a loop whose state stays the same -/
theorem wpAny_forIn_const {M : Model} {A : Around} {E : Value → Shared → Prop} {s : Shared} {α β : Type} {f : α → β → Sem (ForInStep β)} {b : β} {Q : β → Shared → Prop} (l : List α) (I : Nat → Shared → Prop)
    (turn : ∀ j x s, l[j]? = some x → I j s → wpAny M A (f x b) (fun r s' => r = .yield b ∧ I (j + 1) s') E s) (h0 : I 0 s) (fin : ∀ s', I l.length s' → Q b s') : wpAny M A (forIn l b f) Q E s := by
  refine wpAny_forIn_list f (fun rest b' s' => b' = b ∧ ∃ j, j ≤ l.length ∧ rest = l.drop j ∧ I j s') Q (fun x rest b' s' h => ?_) (fun b' s' h => ?_) l b ⟨rfl, 0, Nat.zero_le _, rfl, h0⟩
  · obtain ⟨rfl, j, hj, e, hI⟩ := h
    have hlt : j < l.length := by
      rcases Nat.lt_or_ge j l.length with c | c
      · exact c
      · rw [List.drop_eq_nil_of_le c] at e
        cases e
    rw [List.drop_eq_getElem_cons hlt, List.cons.injEq] at e
    refine wpAny_mono (turn j x s' (by rw [List.getElem?_eq_getElem hlt, e.1]) hI) (fun r s'' hr => ?_) fun _ _ z => z
    obtain ⟨rfl, hr⟩ := hr
    exact ⟨rfl, j + 1, hlt, e.2, hr⟩
  · obtain ⟨rfl, j, hj, e, hI⟩ := h
    have : j = l.length := by
      rcases Nat.lt_or_ge j l.length with c | c
      · rw [List.drop_eq_getElem_cons c] at e
        cases e
      · omega
    subst this
    exact fin s' hI
structure ApartN (z TI TO : Addr) (is ls : List Addr) : Prop where
  TIz : TI ≠ z
  TOz : TO ≠ z
  TITO : TI ≠ TO
  iz : z ∉ is
  iTI : TI ∉ is
  iTO : TO ∉ is
  nd : is.Nodup
  lz : z ∉ ls
  lTO : TO ∉ ls
  li : ∀ l ∈ ls, l ∉ is
/-- list iterators over lists, all at the k-th turn -/
def ItsAt (h : Heap) (k : Nat → Nat) (is ls : List Addr) : Prop := ∀ m i l, is[m]? = some i → ls[m]? = some l → h.IsListIter i l (k m)
section
variable {prog : Program} {w : World} {A : Around} {E : Value → Shared → Prop} {s : Shared}
theorem zipN_next {z TI TO : Addr} {is ls : List Addr} {k : Nat} {ov : Nat → Option Value} {Q : Value → Shared → Prop} (hh : A.handled = none ∨ ∀ m, m < is.length → ov m ≠ none) (D : ApartN z TI TO is ls) (hn : 0 < is.length ∧ is.length ≤ 100) (hll : ls.length = is.length)
    (hz : IsZip s.heap z TI TO .none) (hTI : IsSeqT s.heap TI (is.map Value.ref).toArray) (hTO : ∃ a : Array Value, a.size = is.length ∧ IsSeqT s.heap TO a)
    (hi : ItsAt s.heap (fun _ => k) is ls) (hl : ∀ m l, ls[m]? = some l → ∃ xs, s.heap.IsList l xs ∧ xs[k]? = ov m)
    (hQ : ∀ h' (vs : List Value), vs.length = is.length → (∀ m, m < is.length → ov m = vs[m]?) → IsZip h' z TI TO (rawInt s.heap.objs.size) → IsSeqT h' TO vs.toArray → ItsAt h' (fun _ => k + 1) is ls → IsSeqT h' s.heap.objs.size vs.toArray → h'.objs.size = s.heap.objs.size + 1 →
      (∀ c o, c ≠ z → c ≠ TO → c ∉ is → s.heap.get? c = some o → h'.get? c = some o) → Q (.ref s.heap.objs.size) { s with heap := h' })
    (hE : ∀ h' e, (∃ m, m < is.length ∧ ov m = none) → (∀ c o, c ≠ z → c ≠ TO → c ∉ is → s.heap.get? c = some o → h'.get? c = some o) → (∃ o, h'.get? e = some o ∧ o.cls = .type "StopIteration") → E (.ref e) { s with heap := h' }) :
    wpAny (model prog w) A (Builtin.«zip.__next__» ⟨[.ref z], []⟩) (fun fin s' => ∃ v, fin = .done (.ret v) ∧ Q v s') E s := by
  obtain ⟨hn0, hn1⟩ := hn
  have small : ∀ {m : Nat}, m ≤ 100 → m ≤ sizeLine := fun h => Nat.le_trans h (by decide)
  show wpAny _ _ (field (.ref z) 2 >>= _) _ _ _
  refine wpAny_bind (wpAny_field hz rfl (x := .bool false) rfl ?_)
  show wpAny _ _ (field (.ref z) 3 >>= _) _ _ _
  refine wpAny_bind (wpAny_field hz rfl (x := .ref TI) rfl ?_)
  refine wpAny_bind (wpAny_seqItems hTI rfl ?_)
  have hemp : (is.map Value.ref).toArray.isEmpty = false := by
    cases is with
    | nil => exact absurd hn0 (by simp)
    | cons _ _ => simp
  dsimp only
  rw [hemp]
  show wpAny _ _ (Builtin.SmallTypes.ownedTupleIsFree (.ref z) >>= _) _ _ _
  refine wpAny_bind ?_
  unfold Builtin.SmallTypes.ownedTupleIsFree
  refine wpAny_bind (wpAny_field hz rfl (x := .none) rfl (wpAny_pure ?_))
  simp only [if_true]
  refine wpAny_bind (wpAny_rule ?_)
  refine wpAny_bind (wpAny_field hz rfl (x := .ref TO) rfl ?_)
  refine wpAny_bind (wpAny_setField_rec hz (by simp) fun h₁ hz₁ hs₁ => ?_)
  replace hz₁ : IsZip h₁ z TI TO .ellipsis := hz₁
  refine wpAny_bind (wpAny_forIn_const _ (fun j s' => ∃ h', s' = { s with heap := h' } ∧ IsZip h' z TI TO .ellipsis ∧ (∃ a : Array Value, a.size = is.length ∧ IsSeqT h' TO a ∧ ∀ m, m < j → ov m = a[m]?) ∧
    ItsAt h' (fun m => if m < j then k + 1 else k) is ls ∧ h'.objs.size = s.heap.objs.size ∧ (∀ c o, c ≠ z → c ≠ TO → c ∉ is → s.heap.get? c = some o → h'.get? c = some o)) ?_ ?_ ?_)
  · rintro j x s' hx ⟨h₂, rfl, hz₂, ⟨a, ha, hTO₂, hov⟩, hi₂, hsz, hk⟩
    have hj : j < is.length := by
      have := (List.getElem?_eq_some_iff.mp hx).1
      simpa using this
    obtain ⟨i, ei⟩ : ∃ i, is[j]? = some i := ⟨_, List.getElem?_eq_getElem hj⟩
    obtain ⟨l, el⟩ : ∃ l, ls[j]? = some l := ⟨_, List.getElem?_eq_getElem (hll ▸ hj)⟩
    obtain rfl : x = (Value.ref i, j) := by
      rw [List.getElem?_zipIdx] at hx
      simp only [List.toList_toArray, List.getElem?_map, ei, Option.map_some, Nat.zero_add] at hx
      exact (Option.some.inj hx).symm
    have mi := List.mem_of_getElem? ei
    have ml := List.mem_of_getElem? el
    have hiz : i ≠ z := fun e => D.iz (e ▸ mi)
    have hiTO : i ≠ TO := fun e => D.iTO (e ▸ mi)
    have hlz : l ≠ z := fun e => D.lz (e ▸ ml)
    have hlTO : l ≠ TO := fun e => D.lTO (e ▸ ml)
    obtain ⟨xs, hxs, hxk⟩ := hl j l el
    have hxs₂ : h₂.IsList l xs := hxs.at fun o e => hk l o hlz hlTO (D.li l ml) e
    have hij : h₂.IsListIter i l k := by
      have := hi₂ j i l ei el
      dsimp only at this
      rwa [if_neg (Nat.lt_irrefl _)] at this
    refine wpAny_bind (wpAny_onRaise ?_)
    show wpAny _ _ (Builtin.SmallTypes.nextOf (.ref i) >>= _) _ _ _
    cases hv : ov j with
    | none =>
      rw [hv] at hxk
      have hh : A.handled = none := hh.elim id fun z => absurd hv (z j hj)
      refine wpAny_bind (wpAny_nextOf_list_end hh hij hxs₂ hxk fun h₃ e hs₃ he => ?_)
      obtain ⟨oe, hoe, hce⟩ := he
      have hz₃ : IsZip h₃ z TI TO .ellipsis := hs₃ _ _ (Ne.symm hiz) hz₂
      have hez : e ≠ z := fun x => by subst x; rw [hz₃] at hoe; cases hoe; simp at hce
      refine wpAny_setField_rec hz₃ (by simp) fun h₄ _ hs₄ => hE h₄ e ⟨j, hj, hv⟩ (fun c o c1 c2 c3 x => hs₄.extBut _ _ c1 (hs₃ _ _ (fun q => c3 (q ▸ mi)) (hk c o c1 c2 c3 x))) ⟨oe, hs₄.extBut _ _ hez hoe, hce⟩
    | some v =>
      rw [hv] at hxk
      refine wpAny_bind (wpAny_nextOf_list_item hij hxs₂ hxk fun h₃ hij₃ hs₃ => wpAny_pure ?_)
      have hTO₃ : IsSeqT h₃ TO a := hs₃.extBut _ _ (Ne.symm hiTO) hTO₂
      refine wpAny_bind (wpAny_seqItems hTO₃ rfl ?_)
      refine wpAny_bind (wpAny_updateSeq (f := fun y => y.setIfInBounds j v) hTO₃ rfl ?_ (by rw [ha]; exact small hn1) (by rw [Array.size_setIfInBounds, ha]; exact Nat.le_succ_of_le (small hn1)))
      have hs₄ := Heap.SameBut.update h₃ TO (Obj.mapSeq fun y => y.setIfInBounds j v)
      have hTO₄ : IsSeqT (h₃.update TO (Obj.mapSeq fun y => y.setIfInBounds j v)) TO (a.setIfInBounds j v) := by
        show _ = _
        rw [Heap.get?_update_self _ hTO₃ rfl]
        simp [Obj.mapSeq]
      refine wpAny_bind (wpAny_letGo (wpAny_pure ⟨rfl, _, rfl, ?_, ⟨_, by rw [Array.size_setIfInBounds, ha], hTO₄, fun m hm => ?_⟩, fun m i' l' em el' => ?_, ?_, fun c o c1 c2 c3 x => ?_⟩))
      · exact hs₄.extBut _ _ (Ne.symm D.TOz) (hs₃.extBut _ _ (Ne.symm hiz) hz₂)
      · by_cases c : m = j
        · subst c
          rw [hv, Array.getElem?_setIfInBounds_self_of_lt (by omega)]
        · rw [Array.getElem?_setIfInBounds_ne (by omega)]
          exact hov m (by omega)
      · have mi' := List.mem_of_getElem? em
        have iTO' : i' ≠ TO := fun e => D.iTO (e ▸ mi')
        by_cases c : m = j
        · subst c
          rw [ei] at em
          rw [el] at el'
          obtain rfl := Option.some.inj em
          obtain rfl := Option.some.inj el'
          show Heap.IsListIter _ _ _ (if _ then _ else _)
          rw [if_pos (Nat.lt_succ_self _)]
          exact hij₃.extBut hs₄.extBut iTO'
        · have e1 : (if m < j + 1 then k + 1 else k) = if m < j then k + 1 else k := by
            by_cases c2 : m < j
            · rw [if_pos c2, if_pos (by omega)]
            · rw [if_neg c2, if_neg (by omega)]
          show Heap.IsListIter _ _ _ (if _ then _ else _)
          rw [e1]
          have ne : i' ≠ i := fun e => by
            subst e
            obtain ⟨h1, e1⟩ := List.getElem?_eq_some_iff.mp em
            obtain ⟨h2, e2⟩ := List.getElem?_eq_some_iff.mp ei
            exact c ((List.getElem_inj D.nd).mp (e1.trans e2.symm))
          exact ((hi₂ m i' l' em el').extBut hs₃.extBut ne).extBut hs₄.extBut iTO'
      · rw [hs₄.1, hs₃.1, hsz]
      · exact hs₄.extBut _ _ c2 (hs₃.extBut _ _ (fun q => c3 (q ▸ mi)) (hk c o c1 c2 c3 x))
  · obtain ⟨a, ha, hTOa⟩ := hTO
    refine ⟨h₁, rfl, hz₁, ⟨a, ha, hs₁.extBut _ _ D.TOz hTOa, fun m hm => absurd hm (Nat.not_lt_zero m)⟩, fun m i l em el => ?_, hs₁.1, fun c o c1 _ _ x => hs₁.extBut _ _ c1 x⟩
    show Heap.IsListIter _ _ _ (if _ then _ else _)
    rw [if_neg (Nat.not_lt_zero m)]
    exact (hi m i l em el).extBut hs₁.extBut fun e => D.iz (e ▸ List.mem_of_getElem? em)
  · rintro s' ⟨h₅, rfl, hz₅, ⟨a, ha, hTO₅, hov⟩, hi₅, hsz, hk₅⟩
    have el : (is.map Value.ref).toArray.toList.zipIdx.length = is.length := by simp
    rw [el] at hov hi₅
    refine wpAny_bind (wpAny_seqItems hTO₅ rfl ?_)
    refine wpAny_bind (wpAny_newTuple ?_ (by rw [Array.length_toList, ha]; exact small hn1))
    have hzlt : z < h₅.objs.size := Heap.lt_size hz₅
    show wpAny _ _ (Builtin.SmallTypes.ownedTupleHandOut (.ref z) (.ref h₅.objs.size) >>= _) _ _ _
    refine wpAny_bind ?_
    unfold Builtin.SmallTypes.ownedTupleHandOut
    have hz₆ : IsZip (h₅.push { cls := .type "tuple", data := .seq a.toList.toArray }) z TI TO .ellipsis := Heap.get?_push_of_some _ hz₅
    refine wpAny_bind (wpAny_setField_rec hz₆ (by simp) fun h₇ hz₇ hs₇ => ?_)
    replace hz₇ : IsZip h₇ z TI TO (rawInt h₅.objs.size) := hz₇
    refine wpAny_setField_rec hz₇ (by simp) fun h₈ hz₈ hs₈ => ?_
    replace hz₈ : IsZip h₈ z TI TO (rawInt h₅.objs.size) := hz₈
    have up : ∀ c o, c ≠ z → h₅.get? c = some o → h₈.get? c = some o := fun c o c1 e => hs₈.extBut _ _ c1 (hs₇.extBut _ _ c1 (Heap.get?_push_of_some _ e))
    have hT₈ : IsSeqT h₈ h₅.objs.size a.toList.toArray := hs₈.extBut _ _ (Nat.ne_of_gt hzlt) (hs₇.extBut _ _ (Nat.ne_of_gt hzlt) (Heap.get?_push_size _ rfl))
    have hz8 : h₈.objs.size = h₅.objs.size + 1 := by rw [hs₈.1, hs₇.1, Heap.size_push]
    rw [hsz] at hz₈ hT₈ hz8
    refine wpAny_pure ⟨_, rfl, ?_⟩
    show Q (.ref h₅.objs.size) _
    rw [hsz]
    refine hQ h₈ a.toList (by rw [Array.length_toList, ha]) (fun m hm => by rw [hov m hm, Array.getElem?_toList]) hz₈ ?_ (fun m i l em el => ?_) hT₈ hz8 fun c o c1 c2 c3 e => up c o c1 (hk₅ c o c1 c2 c3 e)
    · rw [Array.toArray_toList]
      exact up _ _ D.TOz hTO₅
    · have := hi₅ m i l em el
      dsimp only at this
      rw [if_pos (List.getElem?_eq_some_iff.mp em).1] at this
      exact this.at fun o e => up _ o (fun q => D.iz (q ▸ List.mem_of_getElem? em)) e
theorem pyNext_zipN {z TI TO : Addr} {is ls : List Addr} {k : Nat} {ov : Nat → Option Value} {Q : Option Value → Shared → Prop} (hh : A.handled = none ∨ ∀ m, m < is.length → ov m ≠ none) (D : ApartN z TI TO is ls) (hn : 0 < is.length ∧ is.length ≤ 100) (hll : ls.length = is.length)
    (hz : IsZip s.heap z TI TO .none) (hTI : IsSeqT s.heap TI (is.map Value.ref).toArray) (hTO : ∃ a : Array Value, a.size = is.length ∧ IsSeqT s.heap TO a)
    (hi : ItsAt s.heap (fun _ => k) is ls) (hl : ∀ m l, ls[m]? = some l → ∃ xs, s.heap.IsList l xs ∧ xs[k]? = ov m)
    (hQ : ∀ h' (vs : List Value), vs.length = is.length → (∀ m, m < is.length → ov m = vs[m]?) → IsZip h' z TI TO (rawInt s.heap.objs.size) → IsSeqT h' TO vs.toArray → ItsAt h' (fun _ => k + 1) is ls → IsSeqT h' s.heap.objs.size vs.toArray → h'.objs.size = s.heap.objs.size + 1 →
      (∀ c o, c ≠ z → c ≠ TO → c ∉ is → s.heap.get? c = some o → h'.get? c = some o) → Q (some (.ref s.heap.objs.size)) { s with heap := h' })
    (hE : ∀ h', (∃ m, m < is.length ∧ ov m = none) → (∀ c o, c ≠ z → c ≠ TO → c ∉ is → s.heap.get? c = some o → h'.get? c = some o) → Q none { s with heap := h' }) :
    wpAny (model prog w) A (pyNext (.ref z)) Q E s := by
  have hT : s.TypeIs (.ref z) "zip" := ⟨_, hz, rfl⟩
  unfold pyNext
  refine wpAny_bind (wpAny_attempt (wpAny_callSpecial?_slot (name := Str.ofString "__next__") hT F.slot_zip_next
    (wpAny_call_entry F.slot_zip_next hT F.entry_zip_next (zipN_next hh D hn hll hz hTI hTO hi hl (fun h' vs a0 a1 a2 a3 a4 a5 a6 a7 => wpAny_pure (hQ h' vs a0 a1 a2 a3 a4 a5 a6 a7)) fun h' e hm hk he => ?_) (F.args_zip_next_1 _))))
  obtain ⟨o, ho, hc⟩ := he
  refine wpAny_bind (wpAny_isInstance (T := "StopIteration") (b := true) ⟨o, ho, hc⟩ isSubtype_stop ?_)
  exact wpAny_pure (hE _ hm hk)
end
/-- what stands at the k-th place of the m-th list -/
def ovOf (h : Heap) (ls : List Addr) (k m : Nat) : Option Value := (ls[m]?).bind fun l => (h.get? l).bind fun o => match o.data with
  | .seq xs _ => xs[k]?
  | _ => none
theorem ovOf_is {h : Heap} {ls : List Addr} {k m : Nat} {l : Addr} {xs : Array Value} (e : ls[m]? = some l) (hl : h.IsList l xs) : xs[k]? = ovOf h ls k m := by
  obtain ⟨o, ho, _, n, hd⟩ := hl
  unfold ovOf
  rw [e, Option.bind_some, ho, Option.bind_some, hd]
theorem vals_of : ∀ {vs : List V} {us : List Value}, vs.length = us.length → (∀ (m : Nat) v u, vs[m]? = some v → us[m]? = some u → RelV v u) → Vals vs us
  | [], [], _, _ => .nil
  | [], _ :: _, h, _ => by simp at h
  | _ :: _, [], h, _ => by simp at h
  | v :: vs, u :: us, h, r => .cons (r 0 v u rfl rfl) (vals_of (by simpa using h) fun m v' u' e1 e2 => r (m + 1) v' u' (by simpa using e1) (by simpa using e2))
theorem valsRef : ∀ (as : List Addr) {us : List Value}, Vals (as.map V.ref) us → us = as.map Value.ref
  | [], _, .nil => rfl
  | _ :: as, _, .cons r rr => by
    cases r
    rw [valsRef as rr]
    rfl
/-- the lists as they stand at each turn, the items in new tuples -/
def ItzN (K : PySem.W.Frag) (as : List Addr) : It :=
  ⟨fun i H => ∃ vs : List V, vs.length = as.length ∧ ∀ (m : Nat) a, as[m]? = some a → ∃ xs, SqL K H a xs ∧ xs[i]? = vs[m]?,
    fun i H v H' => ∃ (T : Addr) (vs : List V), v = .ref T ∧ H T = none ∧ H' = upd H T (.tup vs) ∧ vs.length = as.length ∧ ∀ (m : Nat) a xs, as[m]? = some a → SqL K H a xs → xs[i]? = vs[m]?,
    fun i H => (∀ a ∈ as, ∃ xs, SqL K H a xs) ∧ ∃ (m : Nat) (a : Addr) (xs : List V), as[m]? = some a ∧ SqL K H a xs ∧ xs.length ≤ i⟩
theorem turn_zipN {P : Program} {w : World} {K : PySem.W.Frag} {elts : List Expr} {kk : Nat} {tpos : Pos} {z TI TO : Addr} {is as : List Addr} (D : ApartN z TI TO is as) (hn : 0 < is.length ∧ is.length ≤ 100) (hll : as.length = is.length) :
    Turn P w K (.Tuple elts kk tpos) (ItzN K as) (z :: TI :: TO :: is) z (fun i h => IsZip h z TI TO .none ∧ IsSeqT h TI (is.map Value.ref).toArray ∧ (∃ a : Array Value, a.size = is.length ∧ IsSeqT h TO a) ∧ ItsAt h (fun _ => i) is as) where
  mem := by simp
  obj := fun i h st c hc => by
    obtain ⟨hz, hTI, ⟨a, _, hTO⟩, hi⟩ := st
    rcases List.mem_cons.mp hc with rfl | hc
    · exact ⟨_, hz, fun v q => nomatch q⟩
    rcases List.mem_cons.mp hc with rfl | hc
    · exact ⟨_, hTI, fun v q => nomatch q⟩
    rcases List.mem_cons.mp hc with rfl | hc
    · exact ⟨_, hTO, fun v q => nomatch q⟩
    obtain ⟨m, em⟩ := List.mem_iff_getElem?.mp hc
    have lt := (List.getElem?_eq_some_iff.mp em).1
    obtain ⟨o1, e1, _, d1⟩ := hi m c _ em (List.getElem?_eq_getElem (hll ▸ lt))
    exact ⟨o1, e1, fun v q => by rw [d1] at q; cases q⟩
  keep := fun i h h' st k => by
    obtain ⟨hz, hTI, ⟨a, ha, hTO⟩, hi⟩ := st
    exact ⟨k z (by simp) _ hz, k TI (by simp) _ hTI, ⟨a, ha, k TO (by simp) _ hTO⟩, fun m i l em el => (hi m i l em el).at fun o q => k i (by simp [List.mem_of_getElem? em]) o q⟩
  item := by
    intro X hP hw hK hc i pins s σ H E I hf st hg
    subst hP hw hK
    obtain ⟨hz, hTI, hTO, hi⟩ := st
    obtain ⟨vs, hvl, hg⟩ := hg
    have hzl : z < s.heap.objs.size := Heap.lt_size hz
    have lists : ∀ m l, as[m]? = some l → ∃ xs : Array Value, s.heap.IsList l xs ∧ xs[i]? = ovOf s.heap as i m := fun m l el => by
      obtain ⟨xs, hq, _⟩ := hg m l el
      obtain ⟨its, rv, p, _⟩ := I.list hq
      exact ⟨_, p.isList, ovOf_is el p.isList⟩
    have there : ∀ m v, vs[m]? = some v → ∃ u, ovOf s.heap as i m = some u ∧ RelV v u := fun m v ev => by
      have lt := (List.getElem?_eq_some_iff.mp ev).1
      obtain ⟨l, el⟩ : ∃ l, as[m]? = some l := ⟨_, List.getElem?_eq_getElem (hvl ▸ lt)⟩
      obtain ⟨xs, hq, hx⟩ := hg m l el
      obtain ⟨its, rv, p, _⟩ := I.list hq
      obtain ⟨u, hu, ru⟩ := rv.get (hx.trans ev)
      refine ⟨u, ?_, ru⟩
      rw [← ovOf_is el p.isList]
      simpa using hu
    have all : ∀ m, m < is.length → ovOf s.heap as i m ≠ none := fun m hm => by
      obtain ⟨u, e, _⟩ := there m _ (List.getElem?_eq_getElem (by omega))
      rw [e]
      exact nofun
    refine pyNext_zipN (.inr all) D hn hll hz hTI hTO hi lists (fun h' us hul hov z' TO' hi' hT hsz hk => ?_) fun h' hm => absurd hm.choose_spec.2 (all _ hm.choose_spec.1)
    refine ⟨_, rfl, wpAny_letOwnedTupleGo_zip (s := { s with heap := h' }) z' fun h'' z'' sb => ?_⟩
    have hT2 : h''.get? s.heap.objs.size = some { cls := .type "tuple", data := .seq us.toArray } := (sb.2 _ (Nat.ne_of_gt hzl)).trans hT
    have rel : Vals vs us := vals_of (by omega) fun m v u e1 e2 => by
      obtain ⟨u', e3, r⟩ := there m v e1
      have lt := (List.getElem?_eq_some_iff.mp e1).1
      rw [hov m (by omega), e2] at e3
      cases e3
      exact r
    have new : ObjOk X.prog X.w (upd H s.heap.objs.size (.tup vs)) h'' s.heap.objs.size (.tup vs) :=
      ⟨Nat.le_trans (show vs.length ≤ 100 by omega) (by decide), us, rel, ⟨_, hT2, rfl, _, rfl⟩⟩
    have I1 : Inv X pins σ (upd H s.heap.objs.size (.tup vs)) { s with heap := h'' } :=
      I.turnedNew (t' := s.toks) (ch := z :: TI :: TO :: is) (fun c o hb q => (sb.2 c (fun q' => hb (by simp [q']))).trans (hk c o (fun q' => hb (by simp [q'])) (fun q' => hb (by simp [q'])) (fun q' => hb (by simp [q'])) q)) hf (Nat.le_refl _) new
    refine ⟨.ref s.heap.objs.size, _, I1, rfl, ⟨_, vs, rfl, I.hok.fresh (Nat.le_refl _), rfl, hvl, fun m a xs em hq => ?_⟩, ⟨z'', ?_, ⟨us.toArray, by simpa using hul, ?_⟩, fun m i' l em el => ?_⟩, fun c hcm => ?_⟩
    · obtain ⟨xs', hq', hx'⟩ := hg m a em
      rw [I.list_inj hq hq']
      exact hx'
    · exact (sb.2 _ D.TIz).trans (hk _ _ D.TIz D.TITO D.iTI hTI)
    · exact (sb.2 _ D.TOz).trans TO'
    · exact (hi' m i' l em el).at fun o q => (sb.2 _ (fun e => D.iz (e ▸ List.mem_of_getElem? em))).trans q
    · have hlt : c < s.heap.objs.size := by
        rcases List.mem_cons.mp hcm with rfl | hcm
        · exact hzl
        rcases List.mem_cons.mp hcm with rfl | hcm
        · exact Heap.lt_size hTI
        rcases List.mem_cons.mp hcm with rfl | hcm
        · obtain ⟨_, _, e⟩ := hTO
          exact Heap.lt_size e
        obtain ⟨m, em⟩ := List.mem_iff_getElem?.mp hcm
        have lt := (List.getElem?_eq_some_iff.mp em).1
        obtain ⟨o1, e1, _⟩ := hi m c _ em (List.getElem?_eq_getElem (hll ▸ lt))
        exact Heap.lt_size e1
      rw [upd_ne (Nat.ne_of_lt hlt)]
      exact (hf c hcm).1
  done := by
    intro X hP hw hK hc i pins s σ H E I hf st hg
    subst hP hw hK
    obtain ⟨hz, hTI, hTO, hi⟩ := st
    obtain ⟨hall, m0, a0, xs0, em0, hq0, hlen0⟩ := hg
    have lists : ∀ m l, as[m]? = some l → ∃ xs : Array Value, s.heap.IsList l xs ∧ xs[i]? = ovOf s.heap as i m := fun m l el => by
      obtain ⟨xs, hq⟩ := hall l (List.mem_of_getElem? el)
      obtain ⟨its, rv, p, _⟩ := I.list hq
      exact ⟨_, p.isList, ovOf_is el p.isList⟩
    have none0 : ovOf s.heap as i m0 = none := by
      obtain ⟨its, rv, p, _⟩ := I.list hq0
      rw [← ovOf_is em0 p.isList]
      have := rv.length
      simp
      omega
    have lt0 : m0 < is.length := hll ▸ (List.getElem?_eq_some_iff.mp em0).1
    refine pyNext_zipN (.inl (I.ok.hd hc)) D hn hll hz hTI hTO hi lists (fun h' us hul hov _ _ _ _ _ _ => ?_) fun h' _ hk => ⟨rfl, I.turnedL (t' := s.toks) (ch := z :: TI :: TO :: is) (fun c o hb q =>
      hk c o (fun q' => hb (by simp [q'])) (fun q' => hb (by simp [q'])) (fun q' => hb (by simp [q'])) q) hf⟩
    have := hov m0 lt0
    rw [none0] at this
    exact absurd this.symm (by rw [List.getElem?_eq_getElem (by omega)]; exact nofun)
  self := fun A i s Q E st h => wpAny_pyIter_zip st.1 h
theorem typeCall_zip_3 (a1 a2 a3 : Value) : checkTypeCall "zip" ⟨[a1, a2, a3], []⟩ = pure () := by kernel_rfl
theorem newCall_zip_3 (a1 a2 a3 : Value) : checkBuiltinCall "zip.__new__" ⟨[.type "zip", a1, a2, a3], []⟩ = pure () := by kernel_rfl
theorem args_object_init_4 (o a1 a2 a3 : Value) : argsOk "object.__init__" ⟨[o, a1, a2, a3], []⟩ := by
  unfold argsOk; rw [signature?_of (id := "object.__init__") (n := ['_', '_', 't', 'i', 'n', 'i', '_', '_']) (o := ['t', 'c', 'e', 'j', 'b', 'o']) (by kernel_rfl) F.owner_object]; kernel_rfl
abbrev z3H1 (h : Heap) (l1 l2 l3 : Addr) : Heap := h.push { cls := .type "list_iterator", data := .fields #[.ref l1, .int 0 0] }
abbrev z3H2 (h : Heap) (l1 l2 l3 : Addr) : Heap := (z3H1 h l1 l2 l3).push { cls := .type "list_iterator", data := .fields #[.ref l2, .int 0 0] }
abbrev z3H3 (h : Heap) (l1 l2 l3 : Addr) : Heap := (z3H2 h l1 l2 l3).push { cls := .type "list_iterator", data := .fields #[.ref l3, .int 0 0] }
abbrev z3H4 (h : Heap) (l1 l2 l3 : Addr) : Heap := (z3H3 h l1 l2 l3).push { cls := .type "tuple", data := .seq #[.ref h.objs.size, .ref (z3H1 h l1 l2 l3).objs.size, .ref (z3H2 h l1 l2 l3).objs.size] }
abbrev z3H5 (h : Heap) (l1 l2 l3 : Addr) : Heap := (z3H4 h l1 l2 l3).push { cls := .type "tuple", data := .seq #[.none, .none, .none] }
abbrev z3H6 (h : Heap) (l1 l2 l3 : Addr) : Heap := (z3H5 h l1 l2 l3).push { cls := .type "zip", data := .fields #[.none, .bool false, .bool false, .ref (z3H3 h l1 l2 l3).objs.size, .ref (z3H4 h l1 l2 l3).objs.size] }
theorem meets_zip_new_3 (l1 l2 l3 : Addr) (x1 x2 x3 : Array Value) :
    Meets (Builtin.«zip.__new__» ⟨[.type "zip", .ref l1, .ref l2, .ref l3], []⟩) (fun _ R s => s.heap.IsList l1 x1 ∧ s.heap.IsList l2 x2 ∧ s.heap.IsList l3 x3 ∧
      R (.ok (.ret (.ref (z3H5 s.heap l1 l2 l3).objs.size))) { s with heap := z3H6 s.heap l1 l2 l3 }) :=
  .of_wp fun prog w A R s h => by
    obtain ⟨hp, g, d, tk, os⟩ := s; obtain ⟨g1, g2, g3, h⟩ := h
    have hsub := sub_zip
    have hL1 : Heap.IsList (Shared.heap ⟨hp, g, d, tk, os⟩) l1 x1 := g1
    have hL2 : Heap.IsList (Shared.heap ⟨(hp.push { cls := .type "list_iterator", data := .fields #[.ref l1, .int 0 0] }), g, d, tk, os⟩) l2 x2 := (Heap.IsList.push g2 _)
    have hL3 : Heap.IsList (Shared.heap ⟨((hp.push { cls := .type "list_iterator", data := .fields #[.ref l1, .int 0 0] }).push { cls := .type "list_iterator", data := .fields #[.ref l2, .int 0 0] }), g, d, tk, os⟩) l3 x3 := (Heap.IsList.push (Heap.IsList.push g3 _) _)
    wp_walk using wpAny_pyIter_list hL1, wpAny_pyIter_list hL2, wpAny_pyIter_list hL3
    exact ⟨_, rfl, h⟩
theorem call_zip_3 {prog : Program} {w : World} {A : Around} {E : Value → Shared → Prop} {s : Shared} {l1 l2 l3 : Addr} {x1 x2 x3 : Array Value} {Q : Value → Shared → Prop} (g1 : s.heap.IsList l1 x1) (g2 : s.heap.IsList l2 x2) (g3 : s.heap.IsList l3 x3)
    (h : ∀ h', IsZip h' (s.heap.objs.size + 5) (s.heap.objs.size + 3) (s.heap.objs.size + 4) .none → IsSeqT h' (s.heap.objs.size + 3) ([s.heap.objs.size, (s.heap.objs.size + 1), (s.heap.objs.size + 2)].map Value.ref).toArray → (∃ a : Array Value, a.size = 3 ∧ IsSeqT h' (s.heap.objs.size + 4) a) → ItsAt h' (fun _ => 0) [s.heap.objs.size, (s.heap.objs.size + 1), (s.heap.objs.size + 2)] [l1, l2, l3] →
      (∀ c o, s.heap.get? c = some o → h'.get? c = some o) → Q (.ref (s.heap.objs.size + 5)) { s with heap := h' }) :
    wpAny (model prog w) A (call (.type "zip") [.ref l1, .ref l2, .ref l3]) Q E s := by
  refine callType_new F.called_zip (by decide) (typeCall_zip_3 _ _ _) (newCall_zip_3 _ _ _) (fun obj => args_object_init_4 obj _ _ _) F.entry_zip_new
    (meets_zip_new_3 l1 l2 l3 x1 x2 x3) ⟨g1, g2, g3, ?_⟩
  have z1 : (z3H1 s.heap l1 l2 l3).objs.size = s.heap.objs.size + 1 := Heap.size_push ..
  have z2 : (z3H2 s.heap l1 l2 l3).objs.size = s.heap.objs.size + 2 := by rw [Heap.size_push, z1]
  have z3 : (z3H3 s.heap l1 l2 l3).objs.size = s.heap.objs.size + 3 := by rw [Heap.size_push, z2]
  have z4 : (z3H4 s.heap l1 l2 l3).objs.size = s.heap.objs.size + 4 := by rw [Heap.size_push, z3]
  have z5 : (z3H5 s.heap l1 l2 l3).objs.size = s.heap.objs.size + 5 := by rw [Heap.size_push, z4]
  have z6 : (z3H6 s.heap l1 l2 l3).objs.size = s.heap.objs.size + 6 := by rw [Heap.size_push, z5]
  have o1 : (z3H6 s.heap l1 l2 l3).get? s.heap.objs.size = some _ := (Heap.get?_push_of_some _ (Heap.get?_push_of_some _ (Heap.get?_push_of_some _ (Heap.get?_push_of_some _ (Heap.get?_push_of_some _ (Heap.get?_push_size _ rfl))))))
  have o2 : (z3H6 s.heap l1 l2 l3).get? (z3H1 s.heap l1 l2 l3).objs.size = some _ := (Heap.get?_push_of_some _ (Heap.get?_push_of_some _ (Heap.get?_push_of_some _ (Heap.get?_push_of_some _ (Heap.get?_push_size _ rfl)))))
  have o3 : (z3H6 s.heap l1 l2 l3).get? (z3H2 s.heap l1 l2 l3).objs.size = some _ := (Heap.get?_push_of_some _ (Heap.get?_push_of_some _ (Heap.get?_push_of_some _ (Heap.get?_push_size _ rfl))))
  have o4 : (z3H6 s.heap l1 l2 l3).get? (z3H3 s.heap l1 l2 l3).objs.size = some _ := (Heap.get?_push_of_some _ (Heap.get?_push_of_some _ (Heap.get?_push_size _ rfl)))
  have o5 : (z3H6 s.heap l1 l2 l3).get? (z3H4 s.heap l1 l2 l3).objs.size = some _ := (Heap.get?_push_of_some _ (Heap.get?_push_size _ rfl))
  have o6 : (z3H6 s.heap l1 l2 l3).get? (z3H5 s.heap l1 l2 l3).objs.size = some _ := (Heap.get?_push_size _ rfl)
  rw [z1] at o2
  rw [z2] at o3
  rw [z3] at o4
  rw [z4] at o5
  rw [z5] at o6
  rw [z1, z2] at o4
  rw [z3, z4] at o6
  show _ ∧ _
  rw [z5]
  refine ⟨⟨_, o6, rfl⟩, h _ o6 o4 ⟨_, rfl, o5⟩ (fun m i l em el => ?_) fun c o x => (Heap.get?_push_of_some _ (Heap.get?_push_of_some _ (Heap.get?_push_of_some _ (Heap.get?_push_of_some _ (Heap.get?_push_of_some _ (Heap.get?_push_of_some _ x))))))⟩
  match m, em, el with
  | 0, em, el => cases em; cases el; exact ⟨_, o1, rfl, rfl⟩
  | 1, em, el => cases em; cases el; exact ⟨_, o2, rfl, rfl⟩
  | 2, em, el => cases em; cases el; exact ⟨_, o3, rfl, rfl⟩
theorem apart3 {N b1 b2 b3 : Nat} (g1 : b1 < N) (g2 : b2 < N) (g3 : b3 < N) : ApartN (N + 5) (N + 3) (N + 4) [N, N + 1, N + 2] [b1, b2, b3] := by
  refine ⟨by unfold Addr; omega, by unfold Addr; omega, by unfold Addr; omega, ?_, ?_, ?_, by simp, ?_, ?_, fun l hl m => ?_⟩
  all_goals (simp only [List.mem_cons, List.not_mem_nil, or_false, not_or] at *; unfold Addr at *; omega)
theorem fresh3 {N c : Nat} (h : c ∈ (N + 5) :: (N + 3) :: (N + 4) :: [N, N + 1, N + 2]) : N ≤ c := by
  simp only [List.mem_cons, List.not_mem_nil, or_false] at h
  omega
def iZip3 (K : PySem.W.Frag) (ta : TA) : TI := fun σ H R => ta σ H fun vs H1 => ∃ b1 b2 b3 y1 y2 y3, vs = [.ref b1, .ref b2, .ref b3] ∧ SqL K H1 b1 y1 ∧ SqL K H1 b2 y2 ∧ SqL K H1 b3 y3 ∧ R (ItzN K [b1, b2, b3]) H1
theorem typeCall_zip_4 (a1 a2 a3 a4 : Value) : checkTypeCall "zip" ⟨[a1, a2, a3, a4], []⟩ = pure () := by kernel_rfl
theorem newCall_zip_4 (a1 a2 a3 a4 : Value) : checkBuiltinCall "zip.__new__" ⟨[.type "zip", a1, a2, a3, a4], []⟩ = pure () := by kernel_rfl
theorem args_object_init_5 (o a1 a2 a3 a4 : Value) : argsOk "object.__init__" ⟨[o, a1, a2, a3, a4], []⟩ := by
  unfold argsOk; rw [signature?_of (id := "object.__init__") (n := ['_', '_', 't', 'i', 'n', 'i', '_', '_']) (o := ['t', 'c', 'e', 'j', 'b', 'o']) (by kernel_rfl) F.owner_object]; kernel_rfl
abbrev z4H1 (h : Heap) (l1 l2 l3 l4 : Addr) : Heap := h.push { cls := .type "list_iterator", data := .fields #[.ref l1, .int 0 0] }
abbrev z4H2 (h : Heap) (l1 l2 l3 l4 : Addr) : Heap := (z4H1 h l1 l2 l3 l4).push { cls := .type "list_iterator", data := .fields #[.ref l2, .int 0 0] }
abbrev z4H3 (h : Heap) (l1 l2 l3 l4 : Addr) : Heap := (z4H2 h l1 l2 l3 l4).push { cls := .type "list_iterator", data := .fields #[.ref l3, .int 0 0] }
abbrev z4H4 (h : Heap) (l1 l2 l3 l4 : Addr) : Heap := (z4H3 h l1 l2 l3 l4).push { cls := .type "list_iterator", data := .fields #[.ref l4, .int 0 0] }
abbrev z4H5 (h : Heap) (l1 l2 l3 l4 : Addr) : Heap := (z4H4 h l1 l2 l3 l4).push { cls := .type "tuple", data := .seq #[.ref h.objs.size, .ref (z4H1 h l1 l2 l3 l4).objs.size, .ref (z4H2 h l1 l2 l3 l4).objs.size, .ref (z4H3 h l1 l2 l3 l4).objs.size] }
abbrev z4H6 (h : Heap) (l1 l2 l3 l4 : Addr) : Heap := (z4H5 h l1 l2 l3 l4).push { cls := .type "tuple", data := .seq #[.none, .none, .none, .none] }
abbrev z4H7 (h : Heap) (l1 l2 l3 l4 : Addr) : Heap := (z4H6 h l1 l2 l3 l4).push { cls := .type "zip", data := .fields #[.none, .bool false, .bool false, .ref (z4H4 h l1 l2 l3 l4).objs.size, .ref (z4H5 h l1 l2 l3 l4).objs.size] }
theorem meets_zip_new_4 (l1 l2 l3 l4 : Addr) (x1 x2 x3 x4 : Array Value) :
    Meets (Builtin.«zip.__new__» ⟨[.type "zip", .ref l1, .ref l2, .ref l3, .ref l4], []⟩) (fun _ R s => s.heap.IsList l1 x1 ∧ s.heap.IsList l2 x2 ∧ s.heap.IsList l3 x3 ∧ s.heap.IsList l4 x4 ∧
      R (.ok (.ret (.ref (z4H6 s.heap l1 l2 l3 l4).objs.size))) { s with heap := z4H7 s.heap l1 l2 l3 l4 }) :=
  .of_wp fun prog w A R s h => by
    obtain ⟨hp, g, d, tk, os⟩ := s; obtain ⟨g1, g2, g3, g4, h⟩ := h
    have hsub := sub_zip
    have hL1 : Heap.IsList (Shared.heap ⟨hp, g, d, tk, os⟩) l1 x1 := g1
    have hL2 : Heap.IsList (Shared.heap ⟨(hp.push { cls := .type "list_iterator", data := .fields #[.ref l1, .int 0 0] }), g, d, tk, os⟩) l2 x2 := (Heap.IsList.push g2 _)
    have hL3 : Heap.IsList (Shared.heap ⟨((hp.push { cls := .type "list_iterator", data := .fields #[.ref l1, .int 0 0] }).push { cls := .type "list_iterator", data := .fields #[.ref l2, .int 0 0] }), g, d, tk, os⟩) l3 x3 := (Heap.IsList.push (Heap.IsList.push g3 _) _)
    have hL4 : Heap.IsList (Shared.heap ⟨(((hp.push { cls := .type "list_iterator", data := .fields #[.ref l1, .int 0 0] }).push { cls := .type "list_iterator", data := .fields #[.ref l2, .int 0 0] }).push { cls := .type "list_iterator", data := .fields #[.ref l3, .int 0 0] }), g, d, tk, os⟩) l4 x4 := (Heap.IsList.push (Heap.IsList.push (Heap.IsList.push g4 _) _) _)
    wp_walk using wpAny_pyIter_list hL1, wpAny_pyIter_list hL2, wpAny_pyIter_list hL3, wpAny_pyIter_list hL4
    exact ⟨_, rfl, h⟩
theorem call_zip_4 {prog : Program} {w : World} {A : Around} {E : Value → Shared → Prop} {s : Shared} {l1 l2 l3 l4 : Addr} {x1 x2 x3 x4 : Array Value} {Q : Value → Shared → Prop} (g1 : s.heap.IsList l1 x1) (g2 : s.heap.IsList l2 x2) (g3 : s.heap.IsList l3 x3) (g4 : s.heap.IsList l4 x4)
    (h : ∀ h', IsZip h' (s.heap.objs.size + 6) (s.heap.objs.size + 4) (s.heap.objs.size + 5) .none → IsSeqT h' (s.heap.objs.size + 4) ([s.heap.objs.size, (s.heap.objs.size + 1), (s.heap.objs.size + 2), (s.heap.objs.size + 3)].map Value.ref).toArray → (∃ a : Array Value, a.size = 4 ∧ IsSeqT h' (s.heap.objs.size + 5) a) → ItsAt h' (fun _ => 0) [s.heap.objs.size, (s.heap.objs.size + 1), (s.heap.objs.size + 2), (s.heap.objs.size + 3)] [l1, l2, l3, l4] →
      (∀ c o, s.heap.get? c = some o → h'.get? c = some o) → Q (.ref (s.heap.objs.size + 6)) { s with heap := h' }) :
    wpAny (model prog w) A (call (.type "zip") [.ref l1, .ref l2, .ref l3, .ref l4]) Q E s := by
  refine callType_new F.called_zip (by decide) (typeCall_zip_4 _ _ _ _) (newCall_zip_4 _ _ _ _) (fun obj => args_object_init_5 obj _ _ _ _) F.entry_zip_new
    (meets_zip_new_4 l1 l2 l3 l4 x1 x2 x3 x4) ⟨g1, g2, g3, g4, ?_⟩
  have z1 : (z4H1 s.heap l1 l2 l3 l4).objs.size = s.heap.objs.size + 1 := Heap.size_push ..
  have z2 : (z4H2 s.heap l1 l2 l3 l4).objs.size = s.heap.objs.size + 2 := by rw [Heap.size_push, z1]
  have z3 : (z4H3 s.heap l1 l2 l3 l4).objs.size = s.heap.objs.size + 3 := by rw [Heap.size_push, z2]
  have z4 : (z4H4 s.heap l1 l2 l3 l4).objs.size = s.heap.objs.size + 4 := by rw [Heap.size_push, z3]
  have z5 : (z4H5 s.heap l1 l2 l3 l4).objs.size = s.heap.objs.size + 5 := by rw [Heap.size_push, z4]
  have z6 : (z4H6 s.heap l1 l2 l3 l4).objs.size = s.heap.objs.size + 6 := by rw [Heap.size_push, z5]
  have z7 : (z4H7 s.heap l1 l2 l3 l4).objs.size = s.heap.objs.size + 7 := by rw [Heap.size_push, z6]
  have o1 : (z4H7 s.heap l1 l2 l3 l4).get? s.heap.objs.size = some _ := (Heap.get?_push_of_some _ (Heap.get?_push_of_some _ (Heap.get?_push_of_some _ (Heap.get?_push_of_some _ (Heap.get?_push_of_some _ (Heap.get?_push_of_some _ (Heap.get?_push_size _ rfl)))))))
  have o2 : (z4H7 s.heap l1 l2 l3 l4).get? (z4H1 s.heap l1 l2 l3 l4).objs.size = some _ := (Heap.get?_push_of_some _ (Heap.get?_push_of_some _ (Heap.get?_push_of_some _ (Heap.get?_push_of_some _ (Heap.get?_push_of_some _ (Heap.get?_push_size _ rfl))))))
  have o3 : (z4H7 s.heap l1 l2 l3 l4).get? (z4H2 s.heap l1 l2 l3 l4).objs.size = some _ := (Heap.get?_push_of_some _ (Heap.get?_push_of_some _ (Heap.get?_push_of_some _ (Heap.get?_push_of_some _ (Heap.get?_push_size _ rfl)))))
  have o4 : (z4H7 s.heap l1 l2 l3 l4).get? (z4H3 s.heap l1 l2 l3 l4).objs.size = some _ := (Heap.get?_push_of_some _ (Heap.get?_push_of_some _ (Heap.get?_push_of_some _ (Heap.get?_push_size _ rfl))))
  have o5 : (z4H7 s.heap l1 l2 l3 l4).get? (z4H4 s.heap l1 l2 l3 l4).objs.size = some _ := (Heap.get?_push_of_some _ (Heap.get?_push_of_some _ (Heap.get?_push_size _ rfl)))
  have o6 : (z4H7 s.heap l1 l2 l3 l4).get? (z4H5 s.heap l1 l2 l3 l4).objs.size = some _ := (Heap.get?_push_of_some _ (Heap.get?_push_size _ rfl))
  have o7 : (z4H7 s.heap l1 l2 l3 l4).get? (z4H6 s.heap l1 l2 l3 l4).objs.size = some _ := (Heap.get?_push_size _ rfl)
  rw [z1] at o2
  rw [z2] at o3
  rw [z3] at o4
  rw [z4] at o5
  rw [z5] at o6
  rw [z6] at o7
  rw [z1, z2, z3] at o5
  rw [z4, z5] at o7
  show _ ∧ _
  rw [z6]
  refine ⟨⟨_, o7, rfl⟩, h _ o7 o5 ⟨_, rfl, o6⟩ (fun m i l em el => ?_) fun c o x => (Heap.get?_push_of_some _ (Heap.get?_push_of_some _ (Heap.get?_push_of_some _ (Heap.get?_push_of_some _ (Heap.get?_push_of_some _ (Heap.get?_push_of_some _ (Heap.get?_push_of_some _ x)))))))⟩
  match m, em, el with
  | 0, em, el => cases em; cases el; exact ⟨_, o1, rfl, rfl⟩
  | 1, em, el => cases em; cases el; exact ⟨_, o2, rfl, rfl⟩
  | 2, em, el => cases em; cases el; exact ⟨_, o3, rfl, rfl⟩
  | 3, em, el => cases em; cases el; exact ⟨_, o4, rfl, rfl⟩
theorem apart4 {N b1 b2 b3 b4 : Nat} (g1 : b1 < N) (g2 : b2 < N) (g3 : b3 < N) (g4 : b4 < N) : ApartN (N + 6) (N + 4) (N + 5) [N, N + 1, N + 2, N + 3] [b1, b2, b3, b4] := by
  refine ⟨by unfold Addr; omega, by unfold Addr; omega, by unfold Addr; omega, ?_, ?_, ?_, by simp, ?_, ?_, fun l hl m => ?_⟩
  all_goals (simp only [List.mem_cons, List.not_mem_nil, or_false, not_or] at *; unfold Addr at *; omega)
theorem fresh4 {N c : Nat} (h : c ∈ (N + 6) :: (N + 4) :: (N + 5) :: [N, N + 1, N + 2, N + 3]) : N ≤ c := by
  simp only [List.mem_cons, List.not_mem_nil, or_false] at h
  omega
def iZip4 (K : PySem.W.Frag) (ta : TA) : TI := fun σ H R => ta σ H fun vs H1 => ∃ b1 b2 b3 b4 y1 y2 y3 y4, vs = [.ref b1, .ref b2, .ref b3, .ref b4] ∧ SqL K H1 b1 y1 ∧ SqL K H1 b2 y2 ∧ SqL K H1 b3 y3 ∧ SqL K H1 b4 y4 ∧ R (ItzN K [b1, b2, b3, b4]) H1
theorem pi_zip4 {X : Cx} {e1 e2 e3 e4 : Expr} {ta : TA} {p pos tpos : Pos} {elts : List Expr} {kk : Nat} (hg : Gl X "zip") (hm : X.mg "zip" = none) (ha : PA X [e1, e2, e3, e4] ta)
    (hs : starEach [e1, e2, e3, e4] X.env = (false, eval e1 X.env) :: starEach [e2, e3, e4] X.env := by rfl) (hpl : (backTo pos (starEach [e2, e3, e4] X.env)).any (·.1) = false := by rfl) :
    PI X (.Tuple elts kk tpos) (.Call (.Name "zip" p) [e1, e2, e3, e4] [] pos) (iZip4 X.K ta) := by
  refine ⟨fun pins s σ H R I h => ?_⟩
  refine Call_ (ld_blt I hg hm PyProof.Rows.boot_zip (PyProof.Rows.callWith_type1 (thn (ha.run pos pins s σ H _ I h) fun us s1 ⟨vs, H1, I1, r1, q1⟩ => ?_) hs hpl))
  obtain ⟨b1, b2, b3, b4, y1, y2, y3, y4, ex, hq1, hq2, hq3, hq4, q⟩ := q1
  subst ex
  obtain rfl := valsRef [b1, b2, b3, b4] r1
  obtain ⟨t1, rv1, p1, _⟩ := I1.list hq1
  have g1 : b1 < s1.heap.objs.size := p1.lt
  obtain ⟨t2, rv2, p2, _⟩ := I1.list hq2
  have g2 : b2 < s1.heap.objs.size := p2.lt
  obtain ⟨t3, rv3, p3, _⟩ := I1.list hq3
  have g3 : b3 < s1.heap.objs.size := p3.lt
  obtain ⟨t4, rv4, p4, _⟩ := I1.list hq4
  have g4 : b4 < s1.heap.objs.size := p4.lt
  refine call_zip_4 p1.isList p2.isList p3.isList p4.isList fun h' hz hTI hTO hi hk => wpAny_pyIter_zip hz ?_
  have I2 : Inv X pins σ H1 { s1 with heap := h' } := I1.kept (t' := s1.toks) hk
  have D := apart4 g1 g2 g3 g4
  refine ⟨s1.heap.objs.size + 6, (s1.heap.objs.size + 6) :: (s1.heap.objs.size + 4) :: (s1.heap.objs.size + 5) :: [s1.heap.objs.size, s1.heap.objs.size + 1, s1.heap.objs.size + 2, s1.heap.objs.size + 3], _, _, H1, rfl, I2, turn_zipN D ⟨by simp, by simp⟩ rfl, ⟨hz, hTI, hTO, hi⟩, fun c hcm => ?_, q⟩
  have hle := fresh4 hcm
  exact I1.fpOk hle (I1.hok.fresh hle)
/-- an item: a new tuple of what stands at the place -/
theorem walk_zipN {K : PySem.W.Frag} {as : List Addr} {L : List (List V)} {n : Nat} (hL : L.length = as.length) (h0 : 0 < L.length) (hn : ∀ xs ∈ L, n ≤ xs.length) (he : ∃ xs ∈ L, xs.length = n) :
    Walk (ItzN K as) n (fun H => ∀ (m : Nat) a xs, as[m]? = some a → L[m]? = some xs → SqL K H a xs) (fun i H v H' => ∃ T : Addr, v = .ref T ∧ H T = none ∧ H' = upd H T (.tup (L.map fun xs => xs.getD i .non))) := by
  have item : ∀ i, i < n → ∀ (m : Nat) xs, L[m]? = some xs → xs[i]? = (L.map fun xs => xs.getD i V.non)[m]? := fun i hi m xs em => by
    have h1 := hn xs (List.mem_of_getElem? em)
    rw [List.getElem?_map, em, Option.map_some, List.getD_eq_getElem?_getD, List.getElem?_eq_getElem (by omega)]
    rfl
  have at_ : ∀ {m : Nat} {a : Addr}, as[m]? = some a → ∃ xs, L[m]? = some xs := fun {m a} em => ⟨_, List.getElem?_eq_getElem (hL ▸ (List.getElem?_eq_some_iff.mp em).1)⟩
  refine ⟨fun i H hi q => ⟨L.map fun xs => xs.getD i .non, by rw [List.length_map, hL], fun m a em => ?_⟩, fun H q => ⟨fun a ha => ?_, ?_⟩, fun i H v H' hi q ⟨T, vs, e1, e2, e3, e4, e5⟩ => ⟨T, e1, e2, ?_⟩⟩
  · obtain ⟨xs, ex⟩ := at_ em
    exact ⟨xs, q m a xs em ex, item i hi m xs ex⟩
  · obtain ⟨m, em⟩ := List.mem_iff_getElem?.mp ha
    obtain ⟨xs, ex⟩ := at_ em
    exact ⟨xs, q m a xs em ex⟩
  · obtain ⟨xs, hx, e⟩ := he
    obtain ⟨m, em⟩ := List.mem_iff_getElem?.mp hx
    obtain ⟨a, ea⟩ : ∃ a, as[m]? = some a := ⟨_, List.getElem?_eq_getElem (hL ▸ (List.getElem?_eq_some_iff.mp em).1)⟩
    exact ⟨m, a, xs, ea, q m a xs ea em, by omega⟩
  · rw [e3]
    have : vs = L.map fun xs => xs.getD i .non := by
      refine List.ext_getElem? fun m => ?_
      cases em : as[m]? with
      | none =>
        have h1 := List.getElem?_eq_none_iff.mp em
        rw [List.getElem?_eq_none (by omega), List.getElem?_eq_none (by rw [List.length_map]; omega)]
      | some a =>
        obtain ⟨xs, ex⟩ := at_ em
        rw [← e5 m a xs em (q m a xs em ex), item i hi m xs ex]
    rw [this]
theorem r_izip3 {K : PySem.W.Frag} {tas : TA} {σ : L2.St} {H : Hp} {R : It → Hp → Prop} (h : tas σ H fun vs H1 => ∃ b1 b2 b3 y1 y2 y3, vs = [.ref b1, .ref b2, .ref b3] ∧ SqL K H1 b1 y1 ∧ SqL K H1 b2 y2 ∧ SqL K H1 b3 y3 ∧ R (ItzN K [b1, b2, b3]) H1) : iZip3 K tas σ H R := h
theorem r_izip4 {K : PySem.W.Frag} {tas : TA} {σ : L2.St} {H : Hp} {R : It → Hp → Prop} (h : tas σ H fun vs H1 => ∃ b1 b2 b3 b4 y1 y2 y3 y4, vs = [.ref b1, .ref b2, .ref b3, .ref b4] ∧ SqL K H1 b1 y1 ∧ SqL K H1 b2 y2 ∧ SqL K H1 b3 y3 ∧ SqL K H1 b4 y4 ∧ R (ItzN K [b1, b2, b3, b4]) H1) : iZip4 K tas σ H R := h
theorem r_exz3 {K : PySem.W.Frag} {H : Hp} {b1 b2 b3 : Addr} {y1 y2 y3 : List V} {P : Addr → Addr → Addr → Prop} (h1 : SqL K H b1 y1) (h2 : SqL K H b2 y2) (h3 : SqL K H b3 y3) (q : P b1 b2 b3) :
    ∃ c1 c2 c3 y1 y2 y3, [V.ref b1, V.ref b2, V.ref b3] = [.ref c1, .ref c2, .ref c3] ∧ SqL K H c1 y1 ∧ SqL K H c2 y2 ∧ SqL K H c3 y3 ∧ P c1 c2 c3 := ⟨b1, b2, b3, y1, y2, y3, rfl, h1, h2, h3, q⟩
theorem r_exz4 {K : PySem.W.Frag} {H : Hp} {b1 b2 b3 b4 : Addr} {y1 y2 y3 y4 : List V} {P : Addr → Addr → Addr → Addr → Prop} (h1 : SqL K H b1 y1) (h2 : SqL K H b2 y2) (h3 : SqL K H b3 y3) (h4 : SqL K H b4 y4) (q : P b1 b2 b3 b4) :
    ∃ c1 c2 c3 c4 y1 y2 y3 y4, [V.ref b1, V.ref b2, V.ref b3, V.ref b4] = [.ref c1, .ref c2, .ref c3, .ref c4] ∧ SqL K H c1 y1 ∧ SqL K H c2 y2 ∧ SqL K H c3 y3 ∧ SqL K H c4 y4 ∧ P c1 c2 c3 c4 := ⟨b1, b2, b3, b4, y1, y2, y3, y4, rfl, h1, h2, h3, h4, q⟩
set_option Elab.async false
set_option linter.all false
set_option maxRecDepth 100000
set_option maxHeartbeats 4000000
section
variable {prog : Program} {w : World} {A : Around} {E : Value → Shared → Prop} {s : Shared}
open PySem.W in
theorem zipN_held {z TI TO T : Addr} {f : Bool} {oT : Obj} {is ls : List Addr} {k : Nat} {ov : Nat → Option Value} {Q : Value → Shared → Prop} (hh : A.handled = none ∨ ∀ m, m < is.length → ov m ≠ none) (D : ApartN z TI TO is ls) (hn : 0 < is.length ∧ is.length ≤ 100) (hll : ls.length = is.length)
    (hz : IsZipHeld s.heap z TI TO T f) (hT : s.heap.get? T = some oT) (hTI : IsSeqT s.heap TI (is.map Value.ref).toArray)
    (hi : ItsAt s.heap (fun _ => k) is ls) (hl : ∀ m l, ls[m]? = some l → ∃ xs, s.heap.IsList l xs ∧ xs[k]? = ov m)
    (hQ : ∀ h' (vs : List Value), vs.length = is.length → (∀ m, m < is.length → ov m = vs[m]?) → IsZipHeld h' z TI TO T true → ItsAt h' (fun _ => k + 1) is ls → IsSeqT h' s.heap.objs.size vs.toArray → h'.objs.size = s.heap.objs.size + 1 →
      (∀ c o, c ≠ z → c ∉ is → s.heap.get? c = some o → h'.get? c = some o) → Q (.ref s.heap.objs.size) { s with heap := h' })
    (hE : ∀ h' e, (∃ m, m < is.length ∧ ov m = none) → (∀ c o, c ≠ z → c ∉ is → s.heap.get? c = some o → h'.get? c = some o) → (∃ o, h'.get? e = some o ∧ o.cls = .type "StopIteration") → E (.ref e) { s with heap := h' }) :
    wpAny (model prog w) A (Builtin.«zip.__next__» ⟨[.ref z], []⟩) (fun fin s' => ∃ v, fin = .done (.ret v) ∧ Q v s') E s := by
  show wpAny _ _ (field (.ref z) 2 >>= _) _ _ _
  refine wpAny_bind (wpAny_field hz rfl (x := .bool false) rfl ?_)
  show wpAny _ _ (field (.ref z) 3 >>= _) _ _ _
  refine wpAny_bind (wpAny_field hz rfl (x := .ref TI) rfl ?_)
  refine wpAny_bind (wpAny_seqItems hTI rfl ?_)
  have hemp : (is.map Value.ref).toArray.isEmpty = false := by
    cases is with
    | nil => exact absurd hn.1 (by simp)
    | cons _ _ => simp
  dsimp only
  rw [hemp]
  show wpAny _ _ (Builtin.SmallTypes.ownedTupleIsFree (.ref z) >>= _) _ _ _
  refine wpAny_bind (wpAny_tupleHeld_zip hz hT fun h₁ hz₁ hs₁ => ?_)
  simp only [Bool.false_eq_true, if_false]
  refine wpAny_bind ?_
  rw [← Array.forIn_toList]
  refine wpAny_forIn_list _ (fun rest b' s' => ∃ (j : Nat) (acc : Array Value) (h' : Heap), b' = (none, acc) ∧ j ≤ is.length ∧ rest = (is.map Value.ref).drop j ∧ s' = { s with heap := h' } ∧ acc.size = j ∧ (∀ m, m < j → ov m = acc[m]?) ∧ IsZipHeld h' z TI TO T true ∧
    ItsAt h' (fun m => if m < j then k + 1 else k) is ls ∧ h'.objs.size = s.heap.objs.size ∧ (∀ c o, c ≠ z → c ∉ is → s.heap.get? c = some o → h'.get? c = some o)) _ (fun x rest b' s' h => ?_) (fun b' s' h => ?_) _ _ ⟨0, #[], h₁, rfl, Nat.zero_le _, rfl, rfl, rfl, fun m hm => absurd hm (Nat.not_lt_zero m), hz₁, fun m i l em el => ?_, hs₁.1, fun c o c1 _ e => hs₁.extBut _ _ c1 e⟩
  · obtain ⟨j, acc, h₂, rfl, hjl, e, rfl, hacc, hov, hz₂, hi₂, hsz, hk⟩ := h
    have hj : j < is.length := by
      rcases Nat.lt_or_ge j is.length with c | c
      · exact c
      · rw [List.drop_eq_nil_of_le (by simpa using c)] at e
        cases e
    rw [List.drop_eq_getElem_cons (by simpa using hj), List.cons.injEq] at e
    obtain ⟨ex, er⟩ := e
    obtain ⟨i, ei⟩ : ∃ i, is[j]? = some i := ⟨_, List.getElem?_eq_getElem hj⟩
    obtain ⟨l, el⟩ : ∃ l, ls[j]? = some l := ⟨_, List.getElem?_eq_getElem (hll ▸ hj)⟩
    obtain rfl : x = Value.ref i := by
      rw [ex, List.getElem_map]
      congr 1
      exact (List.getElem?_eq_some_iff.mp ei).2
    have mi := List.mem_of_getElem? ei
    have ml := List.mem_of_getElem? el
    have hiz : i ≠ z := fun e => D.iz (e ▸ mi)
    have hlz : l ≠ z := fun e => D.lz (e ▸ ml)
    obtain ⟨xs, hxs, hxk⟩ := hl j l el
    have hxs₂ : h₂.IsList l xs := hxs.at fun o e => hk l o hlz (D.li l ml) e
    have hij : h₂.IsListIter i l k := by
      have := hi₂ j i l ei el
      dsimp only at this
      rwa [if_neg (Nat.lt_irrefl _)] at this
    refine wpAny_bind (wpAny_holding ?_)
    show wpAny _ _ (Builtin.SmallTypes.nextOf (.ref i) >>= _) _ _ _
    cases hv : ov j with
    | none =>
      rw [hv] at hxk
      have hh : A.handled = none := hh.elim id fun z => absurd hv (z j hj)
      refine wpAny_bind (wpAny_nextOf_list_end hh hij hxs₂ hxk fun h₃ e hs₃ he => ?_)
      exact hE h₃ e ⟨j, hj, hv⟩ (fun c o c1 c3 x => hs₃ _ _ (fun q => c3 (q ▸ mi)) (hk c o c1 c3 x)) he
    | some v =>
      rw [hv] at hxk
      refine wpAny_bind (wpAny_nextOf_list_item hij hxs₂ hxk fun h₃ hij₃ hs₃ => wpAny_pure ?_)
      refine wpAny_pure ⟨j + 1, acc.push v, h₃, rfl, hj, er, rfl, by rw [Array.size_push, hacc], fun m hm => ?_, hs₃.extBut _ _ (Ne.symm hiz) hz₂, fun m i' l' em el' => ?_, by rw [hs₃.1, hsz], fun c o c1 c3 x => hs₃.extBut _ _ (fun q => c3 (q ▸ mi)) (hk c o c1 c3 x)⟩
      · by_cases c : m = j
        · subst c
          rw [hv, ← hacc, Array.getElem?_push_size]
        · rw [Array.getElem?_push_lt (by omega), ← Array.getElem?_eq_getElem]
          exact hov m (by omega)
      · by_cases c : m = j
        · subst c
          rw [ei] at em
          rw [el] at el'
          obtain rfl := Option.some.inj em
          obtain rfl := Option.some.inj el'
          show Heap.IsListIter _ _ _ (if _ then _ else _)
          rw [if_pos (Nat.lt_succ_self _)]
          exact hij₃
        · have e1 : (if m < j + 1 then k + 1 else k) = if m < j then k + 1 else k := by
            by_cases c2 : m < j
            · rw [if_pos c2, if_pos (by omega)]
            · rw [if_neg c2, if_neg (by omega)]
          show Heap.IsListIter _ _ _ (if _ then _ else _)
          rw [e1]
          have ne : i' ≠ i := fun e => by
            subst e
            obtain ⟨h1, e1⟩ := List.getElem?_eq_some_iff.mp em
            obtain ⟨h2, e2⟩ := List.getElem?_eq_some_iff.mp ei
            exact c ((List.getElem_inj D.nd).mp (e1.trans e2.symm))
          exact (hi₂ m i' l' em el').extBut hs₃.extBut ne
  · obtain ⟨j, acc, h₂, rfl, hjl, e, rfl, hacc, hov, hz₂, hi₂, hsz, hk⟩ := h
    have hj : j = is.length := by
      rcases Nat.lt_or_ge j is.length with c | c
      · rw [List.drop_eq_getElem_cons (by simpa using c)] at e
        cases e
      · omega
    subst hj
    show wpAny _ _ (newTuple acc.toList >>= _) _ _ _
    refine wpAny_bind (wpAny_newTuple ?_ (by rw [Array.length_toList, hacc]; exact Nat.le_trans hn.2 (by decide)))
    refine wpAny_pure ⟨_, rfl, ?_⟩
    show Q (.ref h₂.objs.size) _
    have hT : IsSeqT (h₂.push { cls := .type "tuple", data := .seq acc.toList.toArray }) h₂.objs.size acc.toList.toArray := Heap.get?_push_size _ rfl
    have hz4 : (h₂.push { cls := .type "tuple", data := .seq acc.toList.toArray }).objs.size = h₂.objs.size + 1 := Heap.size_push ..
    rw [hsz] at hT hz4 ⊢
    refine hQ _ acc.toList (by rw [Array.length_toList, hacc]) (fun m hm => by rw [hov m hm, Array.getElem?_toList]) (Heap.get?_push_of_some _ hz₂) (fun m i l em el => ?_) hT hz4 fun c o c1 c3 e => Heap.get?_push_of_some _ (hk c o c1 c3 e)
    have := hi₂ m i l em el
    dsimp only at this
    rw [if_pos (List.getElem?_eq_some_iff.mp em).1] at this
    exact this.at fun o e => Heap.get?_push_of_some _ e
  · show Heap.IsListIter _ _ _ (if _ then _ else _)
    rw [if_neg (Nat.not_lt_zero m)]
    exact (hi m i l em el).extBut hs₁.extBut fun e => D.iz (e ▸ List.mem_of_getElem? em)
open PySem.W in
theorem pyNext_zipN_held {z TI TO T : Addr} {f : Bool} {oT : Obj} {is ls : List Addr} {k : Nat} {ov : Nat → Option Value} {Q : Option Value → Shared → Prop} (hh : A.handled = none ∨ ∀ m, m < is.length → ov m ≠ none) (D : ApartN z TI TO is ls) (hn : 0 < is.length ∧ is.length ≤ 100) (hll : ls.length = is.length)
    (hz : IsZipHeld s.heap z TI TO T f) (hT : s.heap.get? T = some oT) (hTI : IsSeqT s.heap TI (is.map Value.ref).toArray)
    (hi : ItsAt s.heap (fun _ => k) is ls) (hl : ∀ m l, ls[m]? = some l → ∃ xs, s.heap.IsList l xs ∧ xs[k]? = ov m)
    (hQ : ∀ h' (vs : List Value), vs.length = is.length → (∀ m, m < is.length → ov m = vs[m]?) → IsZipHeld h' z TI TO T true → ItsAt h' (fun _ => k + 1) is ls → IsSeqT h' s.heap.objs.size vs.toArray → h'.objs.size = s.heap.objs.size + 1 →
      (∀ c o, c ≠ z → c ∉ is → s.heap.get? c = some o → h'.get? c = some o) → Q (some (.ref s.heap.objs.size)) { s with heap := h' })
    (hE : ∀ h', (∃ m, m < is.length ∧ ov m = none) → (∀ c o, c ≠ z → c ∉ is → s.heap.get? c = some o → h'.get? c = some o) → Q none { s with heap := h' }) :
    wpAny (model prog w) A (pyNext (.ref z)) Q E s := by
  have hTy : s.TypeIs (.ref z) "zip" := ⟨_, hz, rfl⟩
  unfold pyNext
  refine wpAny_bind (wpAny_attempt (wpAny_callSpecial?_slot (name := Str.ofString "__next__") hTy F.slot_zip_next
    (wpAny_call_entry F.slot_zip_next hTy F.entry_zip_next (zipN_held hh D hn hll hz hT hTI hi hl (fun h' vs a0 a1 a2 a5 a6 a7 a8 => wpAny_pure (hQ h' vs a0 a1 a2 a5 a6 a7 a8)) fun h' e hm hk he => ?_) (F.args_zip_next_1 _))))
  obtain ⟨o, ho, hc⟩ := he
  refine wpAny_bind (wpAny_isInstance (T := "StopIteration") (b := true) ⟨o, ho, hc⟩ isSubtype_stop ?_)
  exact wpAny_pure (hE _ hm hk)
end
/-- the iterator while its tuples are kept, a list at S being filled -/
def ZlSt (h : Heap) (z TI TO S : Addr) (is as : List Addr) (i : Nat) : Prop :=
  IsSeqT h TI (is.map Value.ref).toArray ∧ ItsAt h (fun _ => i) is as ∧ ((IsZip h z TI TO .none ∧ ∃ a : Array Value, a.size = is.length ∧ IsSeqT h TO a) ∨ ∃ T f oT, PySem.IsZipHeld h z TI TO T f ∧ h.get? T = some oT ∧ T ≠ z ∧ T ∉ is ∧ T ≠ S)
theorem ZlSt.keep {h h' : Heap} {z TI TO S : Addr} {is as : List Addr} {i : Nat} (x : ZlSt h z TI TO S is as i) (n : z ≠ S ∧ TI ≠ S ∧ TO ≠ S ∧ S ∉ is) (k : ∀ c o, c ≠ S → h.get? c = some o → h'.get? c = some o) : ZlSt h' z TI TO S is as i := by
  obtain ⟨hTI, hi, hz⟩ := x
  obtain ⟨n1, n2, n3, n4⟩ := n
  refine ⟨k _ _ n2 hTI, fun m i l em el => (hi m i l em el).at fun o e => k _ o (fun q => n4 (q ▸ List.mem_of_getElem? em)) e, ?_⟩
  rcases hz with ⟨hz, a, ha, hTO⟩ | ⟨T, f, oT, hz, hT, r1, r2, r3⟩
  · exact .inl ⟨k _ _ n1 hz, a, ha, k _ _ n3 hTO⟩
  · exact .inr ⟨T, f, oT, k _ _ n1 hz, k _ _ r3 hT, r1, r2, r3⟩
/-- one tuple more, or the end -/
theorem zl_next {X : Cx} {pins : List (Addr × Obj)} {σ : L2.St} {H : Hp} {s : Shared} {A : Around} {E : Value → Shared → Prop} {z TI TO S : Addr} {is as : List Addr} {i : Nat} {Q : Option Value → Shared → Prop} (hh : A.handled = none)
    (D : ApartN z TI TO is as) (hn : 0 < is.length ∧ is.length ≤ 100) (hll : as.length = is.length) (hS : S < s.heap.objs.size) (I : Inv X pins σ H s) (hf : ∀ b ∈ z :: TI :: TO :: is, FpOk X pins H b) (st : ZlSt s.heap z TI TO S is as i)
    (hl : ∀ (m : Nat) a, as[m]? = some a → ∃ xs, SqL X.K H a xs)
    (item : ∀ (vs : List V) (h' : Heap), vs.length = as.length → (∀ (m : Nat) a xs, as[m]? = some a → SqL X.K H a xs → xs[i]? = vs[m]?) → H s.heap.objs.size = none → Inv X pins σ (upd H s.heap.objs.size (.tup vs)) { s with heap := h' } → ZlSt h' z TI TO S is as (i + 1) → (∀ c o, c ∉ z :: TI :: TO :: is → s.heap.get? c = some o → h'.get? c = some o) →
      Q (some (.ref s.heap.objs.size)) { s with heap := h' })
    (done : ∀ h', (∃ (m : Nat) (a : Addr) (xs : List V), as[m]? = some a ∧ SqL X.K H a xs ∧ xs.length ≤ i) → Inv X pins σ H { s with heap := h' } → Q none { s with heap := h' }) :
    wpAny (model X.prog X.w) A (pyNext (.ref z)) Q E s := by
  obtain ⟨hTI, hi, hz⟩ := st
  have lists : ∀ m l, as[m]? = some l → ∃ xs : Array Value, s.heap.IsList l xs ∧ xs[i]? = ovOf s.heap as i m := fun m l el => by
    obtain ⟨xs, hq⟩ := hl m l el
    obtain ⟨its, rv, p, _⟩ := I.list hq
    exact ⟨_, p.isList, ovOf_is el p.isList⟩
  have small : ∀ {c : Addr} {o : Obj}, s.heap.get? c = some o → s.heap.objs.size ≠ c := fun e => Nat.ne_of_gt (Heap.lt_size e)
  have nis : s.heap.objs.size ∉ is := fun m => by
    obtain ⟨j, ej⟩ := List.mem_iff_getElem?.mp m
    have lt := (List.getElem?_eq_some_iff.mp ej).1
    obtain ⟨o1, e1, _⟩ := hi j _ _ ej (List.getElem?_eq_getElem (hll ▸ lt))
    exact small e1 rfl
  have fin : ∀ (h' : Heap) (us : List Value), us.length = is.length → (∀ m, m < is.length → ovOf s.heap as i m = us[m]?) → IsSeqT h' s.heap.objs.size us.toArray → h'.objs.size = s.heap.objs.size + 1 → (∀ c o, c ∉ z :: TI :: TO :: is → s.heap.get? c = some o → h'.get? c = some o) →
      ZlSt h' z TI TO S is as (i + 1) → Q (some (.ref s.heap.objs.size)) { s with heap := h' } := fun h' us hul hov hT hsz hk st' => by
    have get : ∀ m, m < as.length → ∃ v u, us[m]? = some u ∧ RelV v u ∧ ∀ a xs, as[m]? = some a → SqL X.K H a xs → xs[i]? = some v := fun m hm => by
      obtain ⟨a, ea⟩ : ∃ a, as[m]? = some a := ⟨_, List.getElem?_eq_getElem hm⟩
      obtain ⟨xs, hq⟩ := hl m a ea
      obtain ⟨its, rv, p, _⟩ := I.list hq
      have e1 := hov m (by omega)
      rw [← ovOf_is ea p.isList] at e1
      have hlt : m < us.length := by omega
      have e2 : its[i]? = us[m]? := by simpa using e1
      rw [List.getElem?_eq_getElem hlt] at e2
      have hi1 : i < its.length := (List.getElem?_eq_some_iff.mp e2).1
      have hi2 : i < xs.length := by rw [rv.length]; exact hi1
      obtain ⟨u, hu, ru⟩ := rv.get (List.getElem?_eq_getElem hi2)
      rw [e2] at hu
      refine ⟨xs[i], u, by rw [List.getElem?_eq_getElem hlt]; exact hu, ru, fun a' xs' ea' hq' => ?_⟩
      rw [ea] at ea'
      cases ea'
      rw [I.list_inj hq' hq]
      exact List.getElem?_eq_getElem hi2
    let vs : List V := (List.range as.length).map fun m => if h : m < as.length then (get m h).choose else .non
    have hvl : vs.length = as.length := by simp [vs]
    have vm : ∀ m (h : m < as.length), vs[m]? = some (get m h).choose := fun m h => by
      simp only [vs, List.getElem?_map, List.getElem?_range h, Option.map_some, dif_pos h]
    have rel : Vals vs us := vals_of (by omega) fun m v u e1 e2 => by
      have lt : m < as.length := by rw [← hvl]; exact (List.getElem?_eq_some_iff.mp e1).1
      rw [vm m lt] at e1
      cases e1
      obtain ⟨u', eu, r, _⟩ := (get m lt).choose_spec
      rw [eu] at e2
      cases e2
      exact r
    have new : ObjOk X.prog X.w (upd H s.heap.objs.size (.tup vs)) h' s.heap.objs.size (.tup vs) :=
      ⟨Nat.le_trans (show vs.length ≤ 100 by omega) (by decide), us, rel, ⟨_, hT, rfl, _, rfl⟩⟩
    have I1 : Inv X pins σ (upd H s.heap.objs.size (.tup vs)) { s with heap := h' } :=
      I.turnedNew (t' := s.toks) (ch := z :: TI :: TO :: is) hk hf (Nat.le_refl _) new
    refine item vs h' hvl (fun m a xs ea hq => ?_) (I.hok.fresh (Nat.le_refl _)) I1 st' hk
    have lt := (List.getElem?_eq_some_iff.mp ea).1
    rw [vm m lt]
    obtain ⟨_, _, _, g⟩ := (get m lt).choose_spec
    exact g a xs ea hq
  have stop : (∃ m, m < is.length ∧ ovOf s.heap as i m = none) → ∃ (m : Nat) (a : Addr) (xs : List V), as[m]? = some a ∧ SqL X.K H a xs ∧ xs.length ≤ i := fun ⟨m, hm, e⟩ => by
    obtain ⟨a, ea⟩ : ∃ a, as[m]? = some a := ⟨_, List.getElem?_eq_getElem (hll ▸ hm)⟩
    obtain ⟨xs, hq⟩ := hl m a ea
    obtain ⟨its, rv, p, _⟩ := I.list hq
    rw [← ovOf_is ea p.isList] at e
    have := rv.length
    refine ⟨m, a, xs, ea, hq, ?_⟩
    have := Array.getElem?_eq_none_iff.mp e
    simp at this
    omega
  rcases hz with ⟨hz, hTO⟩ | ⟨T, f, oT, hz, hT, r1, r2, r3⟩
  · refine pyNext_zipN (.inl hh) D hn hll hz hTI hTO hi lists (fun h' us hul hov z' TO' hi' hT hsz hk => ?_) fun h' hm hk => done h' (stop hm) (I.turnedL (t' := s.toks) (ch := z :: TI :: TO :: is) (fun c o hb q =>
      hk c o (fun q' => hb (by simp [q'])) (fun q' => hb (by simp [q'])) (fun q' => hb (by simp [q'])) q) hf)
    refine fin h' us hul hov hT hsz (fun c o hb q => hk c o (fun q' => hb (by simp [q'])) (fun q' => hb (by simp [q'])) (fun q' => hb (by simp [q'])) q) ⟨hk _ _ D.TIz D.TITO D.iTI hTI, hi', .inr ⟨_, false, _, z', hT, small hz, nis, Nat.ne_of_gt hS⟩⟩
  · refine pyNext_zipN_held (.inl hh) D hn hll hz hT hTI hi lists (fun h' us hul hov z' hi' hT' hsz hk => ?_) fun h' hm hk => done h' (stop hm) (I.turnedL (t' := s.toks) (ch := z :: TI :: TO :: is) (fun c o hb q =>
      hk c o (fun q' => hb (by simp [q'])) (fun q' => hb (by simp [q'])) q) hf)
    exact fin h' us hul hov hT' hsz (fun c o hb q => hk c o (fun q' => hb (by simp [q'])) (fun q' => hb (by simp [q'])) q) ⟨hk _ _ D.TIz D.iTI hTI, hi', .inr ⟨T, true, oT, z', hk _ _ r1 r2 hT, r1, r2, r3⟩⟩
/-- what list(zip(..)) of lists L makes: a list at q of tuples at ts -/
structure ZOut (H1 H' : Hp) (q : Addr) (L : List (List V)) (n : Nat) (ts : List Addr) : Prop where
  new : H1 q = none
  len : ts.length = n
  lst : H' q = some (.lst (ts.map V.ref))
  nq : q ∉ ts
  nd : ts.Nodup
  tup : ∀ (j : Nat) t, ts[j]? = some t → H1 t = none ∧ H' t = some (.tup (L.map fun xs => xs.getD j V.non))
  fr : Fr [] H1 H'
theorem zl_loop {X : Cx} {pins : List (Addr × Obj)} {σ : L2.St} {z TI TO S : Addr} {is as : List Addr} {A1 : Around} {R : Result → Shared → Prop} {L : List (List V)} {n : Nat} {H0 : Hp} (hh : A1.handled = none) (D : ApartN z TI TO is as) (hi : 0 < is.length ∧ is.length ≤ 100) (hll : as.length = is.length)
    (hL : L.length = as.length) (hn1 : ∀ xs ∈ L, n ≤ xs.length) (hn2 : ∃ xs ∈ L, xs.length = n) (hnn : n ≤ 100000) (low : ∀ b ∈ z :: TI :: TO :: is, b < S) (sq : ∀ (m : Nat) a xs, as[m]? = some a → L[m]? = some xs → SqL X.K H0 a xs)
    (hR : ∀ (ts : List Addr) H' s', ZOut H0 H' S L n ts → Inv X pins σ H' s' → R (.ok (.ret .none)) s') :
    ∀ (k i : Nat) (ts : List Addr) (H : Hp) (s : Shared), n - i = k → i ≤ n → Inv X pins σ H s → ZOut H0 H S L i ts → ZlSt s.heap z TI TO S is as i → (∀ b ∈ z :: TI :: TO :: is, FpOk X pins H b) → codeAny (model X.prog X.w) A1 (.builtin "list.extend.loop" ⟨[.ref S, .ref z, .none], []⟩) R s := by
  have at_ : ∀ {m : Nat} {a : Addr}, as[m]? = some a → ∃ xs, L[m]? = some xs := fun {m a} em => ⟨_, List.getElem?_eq_getElem (hL ▸ (List.getElem?_eq_some_iff.mp em).1)⟩
  have apart : z ≠ S ∧ TI ≠ S ∧ TO ≠ S ∧ S ∉ is := ⟨Nat.ne_of_lt (low z (by simp)), Nat.ne_of_lt (low TI (by simp)), Nat.ne_of_lt (low TO (by simp)), fun m => Nat.lt_irrefl _ (low S (by simp [m]))⟩
  intro k
  induction k with
  | zero =>
    intro i ts H s hk hin I o st hf
    have e : i = n := by omega
    subst e
    obtain ⟨z1, its, kk, r2, hl1, e⟩ := I.lstM o.lst
    refine codeAny_builtin PySem.F.entry_extend_loop ?_
    rw [Around.under_plainId PySem.F.plain_extend_loop _]
    show wpAny _ A1.in1 (pyNext (.ref z) >>= _) _ _ _
    refine wpAny_bind (zl_next (A := A1.in1) hh D hi hll (Heap.lt_size e) I hf st (fun m a em => ?_) (fun vs h' hvl g _ _ _ _ => ?_) fun h' _ I' => wpAny_pure (hR ts H _ o I'))
    · obtain ⟨xs, ex⟩ := at_ em
      exact ⟨xs, o.fr.sql (sq m a xs em ex) fun z => nomatch z⟩
    · obtain ⟨xs, hx, e⟩ := hn2
      obtain ⟨m, em⟩ := List.mem_iff_getElem?.mp hx
      obtain ⟨a, ea⟩ : ∃ a, as[m]? = some a := ⟨_, List.getElem?_eq_getElem (hL ▸ (List.getElem?_eq_some_iff.mp em).1)⟩
      have h1 := g m a xs ea (o.fr.sql (sq m a xs ea em) fun z => nomatch z)
      have lt := (List.getElem?_eq_some_iff.mp ea).1
      rw [List.getElem?_eq_none (by omega), List.getElem?_eq_getElem (by omega)] at h1
      cases h1
  | succ k ih =>
    intro i ts H s hk hin I o st hf
    have hlt : i < n := by omega
    obtain ⟨z1, its, kk, r2, hl1, e⟩ := I.lstM o.lst
    refine codeAny_builtin PySem.F.entry_extend_loop ?_
    rw [Around.under_plainId PySem.F.plain_extend_loop _]
    show wpAny _ A1.in1 (pyNext (.ref z) >>= _) _ _ _
    refine wpAny_bind (zl_next (A := A1.in1) hh D hi hll (Heap.lt_size e) I hf st (fun m a em => ?_) (fun vs h' hvl g hnew I' st' hk' => ?_) fun h' stop _ => ?_)
    · obtain ⟨xs, ex⟩ := at_ em
      exact ⟨xs, o.fr.sql (sq m a xs em ex) fun z => nomatch z⟩
    · have hS : S ≠ s.heap.objs.size := Nat.ne_of_lt (Heap.lt_size e)
      have lst' : (upd H s.heap.objs.size (.tup vs)) S = some (.lst (ts.map V.ref)) := by
        rw [upd_ne hS]
        exact o.lst
      obtain ⟨z3, its3, k3, r3, hl3, e3⟩ := I'.lstM lst'
      show wpAny _ A1.in1 (updateSeq S (·.push (.ref s.heap.objs.size)) >>= _) _ _ _
      have tl := o.len
      have lim : n ≤ sizeLine := Nat.le_trans hnn (by decide)
      have its3l : its3.length = i := by rw [← hl3, List.length_map, tl]
      refine wpAny_bind (wpAny_updateSeq e3 rfl (wpAny_pure ⟨plainId_quiet PySem.F.plain_extend_loop _, ?_⟩) (by rw [List.size_toArray]; omega) (by show (its3.toArray.push _).size ≤ sizeLine + 1; rw [Array.size_push, List.size_toArray]; omega))
      have I3 := I'.lset (its' := its3 ++ [.ref s.heap.objs.size]) (ys := (ts ++ [s.heap.objs.size]).map V.ref) (t' := s.toks) (f := (·.push (Value.ref s.heap.objs.size))) lst' e3 (by simp) (by rw [List.map_append]; exact r3.append (.cons rfl .nil)) (by rw [List.length_map, List.length_append, List.length_singleton]; omega)
      have H0new : H0 s.heap.objs.size = none := by
        cases c : H0 s.heap.objs.size with
        | none => rfl
        | some u =>
          rw [o.fr _ _ (fun z => nomatch z) c] at hnew
          cases hnew
      have vsl : vs = L.map fun xs => xs.getD i V.non := by
        refine List.ext_getElem? fun m => ?_
        cases em : as[m]? with
        | none =>
          have h1 := List.getElem?_eq_none_iff.mp em
          rw [List.getElem?_eq_none (by omega), List.getElem?_eq_none (by rw [List.length_map]; omega)]
        | some a =>
          obtain ⟨xs, ex⟩ := at_ em
          rw [← g m a xs em (o.fr.sql (sq m a xs em ex) fun z => nomatch z), List.getElem?_map, ex, Option.map_some]
          have h1 := hn1 xs (List.mem_of_getElem? ex)
          rw [List.getD_eq_getElem?_getD, List.getElem?_eq_getElem (by omega)]
          rfl
      refine ih (i + 1) (ts ++ [s.heap.objs.size]) _ _ (by omega) hlt I3 ⟨o.new, by rw [List.length_append, tl]; rfl, upd_same, fun m => ?_, ?_, fun j t ht => ?_, ?_⟩ (st'.keep apart fun c u hc hu => (Heap.get?_update_other _ _ (Ne.symm hc)).trans hu) fun b hb => ?_
      · rcases List.mem_append.mp m with m | m
        · exact o.nq m
        · exact hS (List.mem_singleton.mp m)
      · refine List.nodup_append.mpr ⟨o.nd, List.nodup_cons.mpr ⟨(fun z => nomatch z), List.nodup_nil⟩, fun a ha b hb e => ?_⟩
        rw [List.mem_singleton.mp hb] at e
        subst e
        obtain ⟨j, hj⟩ := List.mem_iff_getElem?.mp ha
        have := (o.tup j _ hj).2
        rw [hnew] at this
        cases this
      · rcases Nat.lt_trichotomy j ts.length with h1 | h1 | h1
        · rw [List.getElem?_append_left h1] at ht
          obtain ⟨t1, t2⟩ := o.tup j t ht
          refine ⟨t1, ?_⟩
          have ne1 : t ≠ S := fun e => o.nq (e ▸ List.mem_of_getElem? ht)
          have ne2 : t ≠ s.heap.objs.size := fun e => by
            rw [e, hnew] at t2
            cases t2
          rw [upd_ne ne1, upd_ne ne2]
          exact t2
        · subst h1
          have e5 : s.heap.objs.size = t := by simpa using ht
          subst e5
          refine ⟨H0new, ?_⟩
          rw [upd_ne hS.symm, upd_same, vsl, tl]
        · have hnone : (ts ++ [s.heap.objs.size])[j]? = none := List.getElem?_eq_none (by rw [List.length_append, List.length_singleton]; omega)
          rw [hnone] at ht
          cases ht
      · exact fun b u hb hu => by
          have h1 := o.fr b u hb hu
          rw [upd_ne (ne_of_none hu o.new), upd_ne (ne_of_none h1 hnew)]
          exact h1
      · obtain ⟨f1, f2⟩ := hf b hb
        refine ⟨?_, f2⟩
        have bS : b ≠ S := fun q => by
          subst q
          rw [o.lst] at f1
          cases f1
        have bn : b ≠ s.heap.objs.size := Nat.ne_of_lt (Nat.lt_trans (low b hb) (Heap.lt_size e))
        rw [upd_ne bS, upd_ne bn]
        exact f1
    · obtain ⟨m, a, xs, ea, hq, hle⟩ := stop
      obtain ⟨xs', ex⟩ := at_ ea
      have h2 := hn1 xs' (List.mem_of_getElem? ex)
      rw [I.list_inj hq (o.fr.sql (sq m a xs' ea ex) fun z => nomatch z)] at hle
      omega
theorem zl_nolen : typeLookup (.type "zip") "__len__" = pure none := am_miss_of_fast (by decide +kernel)
theorem zl_nohint : typeLookup (.type "zip") "__length_hint__" = pure none := am_miss_of_fast (by decide +kernel)
/-- list(z), z a zip that has not begun -/
theorem list_of_zip {X : Cx} {pins : List (Addr × Obj)} {σ : L2.St} {H : Hp} {s : Shared} {z TI TO : Addr} {is as : List Addr} {L : List (List V)} {n : Nat} {Q : VK} (hc : X.calm = true) (D : ApartN z TI TO is as) (hi : 0 < is.length ∧ is.length ≤ 100) (hll : as.length = is.length)
    (hL : L.length = as.length) (hn1 : ∀ xs ∈ L, n ≤ xs.length) (hn2 : ∃ xs ∈ L, xs.length = n) (hnn : n ≤ 100000) (sq : ∀ (m : Nat) a xs, as[m]? = some a → L[m]? = some xs → SqL X.K H a xs)
    (I : Inv X pins σ H s) (hz : IsZip s.heap z TI TO .none) (hTI : IsSeqT s.heap TI (is.map Value.ref).toArray) (hTO : ∃ a : Array Value, a.size = is.length ∧ IsSeqT s.heap TO a) (hit : ItsAt s.heap (fun _ => 0) is as) (hf : ∀ b ∈ z :: TI :: TO :: is, FpOk X pins H b)
    (q : ∀ H' p ts, ZOut H H' p L n ts → Q (.ref p) H') : wpAny (model X.prog X.w) X.A (call (.type "list") [.ref z]) (EP X pins σ Q) X.xe s := by
  refine callType_codes (Q₁ := fun obj s₁ => obj = .ref s.heap.objs.size ∧ s₁ = { s with heap := s.heap.push { cls := .type "list", data := .seq #[] } }) PySem.F.called_list (PySem.F.typeCall_list_1 _) PySem.F.entry_list_init
    (code_list_new _ ⟨rfl, rfl⟩) fun obj s₁ h₁ => ?_
  obtain ⟨rfl, rfl⟩ := h₁
  have hS : (s.heap.push { cls := .type "list", data := .seq #[] }).get? s.heap.objs.size = some { cls := .type "list", data := .seq #[] } := Heap.get?_push_size _ rfl
  refine ⟨⟨_, hS, rfl⟩, PySem.F.args_list_init_2 _ _, ?_⟩
  have fr : H s.heap.objs.size = none := I.hok.fresh (Nat.le_refl _)
  have I1 : Inv X pins σ (upd H s.heap.objs.size (.lst [])) { s with heap := s.heap.push { cls := .type "list", data := .seq #[] } } := I.lnew (its := []) (t' := s.toks) .nil (Nat.zero_le _)
  show wpAny _ _ (do let old ← Builtin.List.listItems (.ref s.heap.objs.size); Builtin.List.listUpdate (.ref s.heap.objs.size) (fun _ => #[]); letGo old.toList.reverse; Builtin.List.listExtendWith (.ref s.heap.objs.size) (.ref z) .none) _ _ _
  refine wpAny_bind ?_
  unfold Builtin.List.listItems
  refine wpAny_bind (wpAny_seqItems hS rfl (wpAny_pure ?_))
  show wpAny _ _ (updateSeq s.heap.objs.size (fun _ => #[]) >>= fun _ => letGo (#[] : Array Value).toList.reverse >>= fun _ => Builtin.List.listExtendWith (.ref s.heap.objs.size) (.ref z) .none) _ _ _
  refine wpAny_bind (wpAny_updateSeq hS rfl ?_)
  have I2 := I1.lset (f := fun _ => #[]) (its := []) (its' := []) (ys := []) (t' := s.toks) upd_same hS rfl .nil (Nat.zero_le _)
  rw [upd_upd] at I2
  refine wpAny_bind (wpAny_letGo ?_)
  have hzl : z < s.heap.objs.size := Heap.lt_size hz
  have hSz : s.heap.objs.size ≠ z := Nat.ne_of_gt hzl
  have up : ∀ c o, c ≠ s.heap.objs.size → s.heap.get? c = some o → ((s.heap.push { cls := .type "list", data := .seq #[] }).update s.heap.objs.size (Obj.mapSeq fun _ => #[])).get? c = some o := fun c o hc e =>
    (Heap.get?_update_other _ _ (Ne.symm hc)).trans (Heap.get?_push_of_some _ e)
  have old : ∀ c o, s.heap.get? c = some o → ((s.heap.push { cls := .type "list", data := .seq #[] }).update s.heap.objs.size (Obj.mapSeq fun _ => #[])).get? c = some o := fun c o e => up c o (Nat.ne_of_lt (Heap.lt_size e)) e
  have ty : ∀ tk, Shared.TypeIs { s with heap := (s.heap.push { cls := .type "list", data := .seq #[] }).update s.heap.objs.size (Obj.mapSeq fun _ => #[]), toks := tk } (.ref z) "zip" := fun _ => ⟨_, old z _ hz, rfl⟩
  have low : ∀ b ∈ z :: TI :: TO :: is, b < s.heap.objs.size := fun b hb => by
    rcases List.mem_cons.mp hb with rfl | hb
    · exact hzl
    rcases List.mem_cons.mp hb with rfl | hb
    · exact Heap.lt_size hTI
    rcases List.mem_cons.mp hb with rfl | hb
    · obtain ⟨_, _, e⟩ := hTO
      exact Heap.lt_size e
    · obtain ⟨j, ej⟩ := List.mem_iff_getElem?.mp hb
      have lt := (List.getElem?_eq_some_iff.mp ej).1
      obtain ⟨o1, e1, _⟩ := hit j _ _ ej (List.getElem?_eq_getElem (hll ▸ lt))
      exact Heap.lt_size e1
  unfold Builtin.List.listExtendWith
  refine wpAny_bind (wpAny_typeOf (ty _) ?_)
  have h1 : Builtin.List.listSameRef (.ref s.heap.objs.size) (.ref z) = false := by simp [Builtin.List.listSameRef, hSz]
  have h2 : (Value.type "zip" == Value.type "list") = false := by decide
  have h3 : (Value.type "zip" == Value.type "tuple") = false := by decide
  simp only [h1, h2, h3, Bool.or_false, Bool.false_eq_true, if_false]
  refine wpAny_bind (wpAny_pyIter_zip (old z _ hz) ?_)
  refine wpAny_bind (wpAny_holding ?_)
  unfold Builtin.List.listLengthHint
  refine wpAny_bind (wpAny_specialOf (ty _) zl_nolen ?_)
  refine PySem.W.KFB.if_not rfl ?_
  refine PySem.W.KFB.if_not rfl ?_
  refine wpAny_bind (wpAny_specialOf (ty _) zl_nohint ?_)
  refine wpAny_pure ?_
  have run : ∀ s' : Shared, s'.heap = (s.heap.push { cls := .type "list", data := .seq #[] }).update s.heap.objs.size (Obj.mapSeq fun _ => #[]) ∨ (∀ c o, c ≠ s.heap.objs.size → ((s.heap.push { cls := .type "list", data := .seq #[] }).update s.heap.objs.size (Obj.mapSeq fun _ => #[])).get? c = some o → s'.heap.get? c = some o) →
      Inv X pins σ (upd H s.heap.objs.size (.lst [])) s' → codeAny (model X.prog X.w) X.A.in1 (.builtin "list.extend.loop" ⟨[.ref s.heap.objs.size, .ref z, .none], []⟩) (wants (fun r s₂ => r = .none ∧ EP X pins σ Q (.ref s.heap.objs.size) s₂) X.xe) s' := fun s' hs I' => by
    have st0 : ZlSt ((s.heap.push { cls := .type "list", data := .seq #[] }).update s.heap.objs.size (Obj.mapSeq fun _ => #[])) z TI TO s.heap.objs.size is as 0 := by
      obtain ⟨a, ha, e⟩ := hTO
      exact ⟨old _ _ hTI, fun m i l em el => (hit m i l em el).at fun o e => old _ o e, .inl ⟨old _ _ hz, a, ha, old _ _ e⟩⟩
    have st : ZlSt s'.heap z TI TO s.heap.objs.size is as 0 := by
      rcases hs with e | k
      · rw [e]
        exact st0
      · exact st0.keep ⟨Nat.ne_of_lt (low z (by simp)), Nat.ne_of_lt (low TI (by simp)), Nat.ne_of_lt (low TO (by simp)), fun m => Nat.lt_irrefl _ (low _ (by simp [m]))⟩ k
    refine zl_loop (A1 := X.A.in1) (H0 := H) (n := n) (I.ok.hd hc) D hi hll hL hn1 hn2 hnn low sq (fun ts H' s'' o I'' => ⟨rfl, .ref s.heap.objs.size, H', I'', rfl, q H' _ ts o⟩) n 0 [] _ s' (Nat.sub_zero n) (Nat.zero_le n) I' ⟨fr, rfl, upd_same, (fun m => nomatch m), List.nodup_nil, (fun j t ht => nomatch ht), (Fr.refl H).new fr⟩ st fun b hb => ?_
    obtain ⟨f1, f2⟩ := hf b hb
    exact ⟨by rw [upd_ne (Nat.ne_of_lt (low b hb))]; exact f1, f2⟩
  refine wpAny_ite_split (fun _ => ?_) (fun _ => wpAny_pure ⟨plainId_quiet PySem.F.plain_extend_loop _, run _ (.inl rfl) I2⟩)
  refine wpAny_bind (wpAny_rule ?_)
  refine wpAny_bind ?_
  show wpAny _ _ (updateSeq s.heap.objs.size (·.push .none) >>= fun _ => updateSeq s.heap.objs.size (·.pop)) _ _ _
  obtain ⟨z3, its3, k3, r3, hl3, e3⟩ := I2.lstM upd_same
  cases r3
  refine wpAny_bind (wpAny_updateSeq e3 rfl ?_)
  have I4 := I2.lset (f := (·.push Value.none)) (its' := [Value.none]) (ys := [.non]) (t' := s.toks) upd_same e3 (by simp) (.cons rfl .nil) (by rw [List.length_singleton, sizeLine_eq]; decide)
  obtain ⟨z4, its4, k4, r4, hl4, e4⟩ := I4.lstM upd_same
  obtain ⟨u4, rfl, ru4⟩ := r4.one
  refine wpAny_updateSeq e4 rfl ?_ (by show 1 ≤ sizeLine; rw [sizeLine_eq]; decide) (by show 0 ≤ sizeLine + 1; exact Nat.zero_le _)
  have I5 := I4.lset (f := (·.pop)) (its := [u4]) (its' := []) (ys := []) (t' := s.toks) upd_same e4 (by rfl) .nil (Nat.zero_le _)
  rw [upd_upd, upd_upd] at I5
  exact wpAny_pure ⟨plainId_quiet PySem.F.plain_extend_loop _, run _ (.inr fun c o hc e => (Heap.get?_update_other _ _ (Ne.symm hc)).trans ((Heap.get?_update_other _ _ (Ne.symm hc)).trans e)) I5⟩
/-- what the reading asks of list(zip(..)): lists of ints or whatever, the shortest of n -/
def rZipL (K : PySem.W.Frag) (m : Nat) : List V → Hp → VK → Prop := fun vs H Q => ∃ (as : List Addr) (L : List (List V)) (n : Nat), vs = as.map V.ref ∧ as.length = m ∧ L.length = m ∧ (∀ xs ∈ L, n ≤ xs.length) ∧ (∃ xs ∈ L, xs.length = n) ∧ n ≤ 100000 ∧ (∀ (m : Nat) a xs, as[m]? = some a → L[m]? = some xs → SqL K H a xs) ∧
  ∀ H' p ts, ZOut H H' p L n ts → Q (.ref p) H'
def tZipL (K : PySem.W.Frag) (m : Nat) (ta : TA) : TE := fun σ H Q => ta σ H fun vs H1 => rZipL K m vs H1 Q
theorem pe_listZip3 {X : Cx} {e1 e2 e3 : Expr} {ta : TA} {p p2 cpos pos : Pos} (hg : Gl X "list") (hm : X.mg "list" = none) (hg2 : Gl X "zip") (hm2 : X.mg "zip" = none) (ha : PA X [e1, e2, e3] ta) (hc : X.calm = true := by rfl) (hv : bootBuiltins "list" = some (.type "list") := by decide +kernel)
    (hz : starEach [e1, e2, e3] X.env = (false, eval e1 X.env) :: starEach [e2, e3] X.env := by rfl) (hpl : (backTo cpos (starEach [e2, e3] X.env)).any (·.1) = false := by rfl)
    (hs : starEach [.Call (.Name "zip" p2) [e1, e2, e3] [] cpos] X.env = (false, eval (.Call (.Name "zip" p2) [e1, e2, e3] [] cpos) X.env) :: starEach [] X.env := by rfl) :
    PE X (.Call (.Name "list" p) [.Call (.Name "zip" p2) [e1, e2, e3] [] cpos] [] pos) (tZipL X.K 3 ta) := by
  refine ⟨fun pins s σ H Q I hq => ?_⟩
  refine wpAny_Call_Name_kw (ld_blt I hg hm hv ?_)
  refine PyProof.Rows.callWith_type1 ?_ hs rfl
  rw [hs]
  show wpAny _ _ (spliced ((false, eval (.Call (.Name "zip" p2) [e1, e2, e3] [] cpos) X.env) :: backTo pos (starEach [] X.env))) _ _ s
  refine Calls.spliced_cons ?_
  refine Call_ (ld_blt I hg2 hm2 PyProof.Rows.boot_zip (PyProof.Rows.callWith_type1 (thn (ha.run cpos pins s σ H _ I hq) fun us s1 ⟨vs, H1, I1, r1, q1⟩ => ?_) hz hpl))
  obtain ⟨as, L, n, ex, hal, hLl, hn1, hn2, hnn, sq, q⟩ := q1
  match as, L, hal, hLl with
  | [b1, b2, b3], [y1, y2, y3], _, _ =>
    subst ex
    obtain rfl := valsRef [b1, b2, b3] r1
    obtain ⟨t1, rv1, p1, _⟩ := I1.list (sq 0 b1 y1 rfl rfl)
    have g1 : b1 < s1.heap.objs.size := p1.lt
    obtain ⟨t2, rv2, p2, _⟩ := I1.list (sq 1 b2 y2 rfl rfl)
    have g2 : b2 < s1.heap.objs.size := p2.lt
    obtain ⟨t3, rv3, p3, _⟩ := I1.list (sq 2 b3 y3 rfl rfl)
    have g3 : b3 < s1.heap.objs.size := p3.lt
    refine call_zip_3 p1.isList p2.isList p3.isList fun h' hz hTI hTO hi hk => Calls.spliced_nil ?_
    have I2 : Inv X pins σ H1 { s1 with heap := h' } := I1.kept (t' := s1.toks) hk
    exact list_of_zip (s := { s1 with heap := h' }) (is := [s1.heap.objs.size, s1.heap.objs.size + 1, s1.heap.objs.size + 2]) (as := [b1, b2, b3]) hc (apart3 g1 g2 g3) ⟨by simp, by simp⟩ rfl rfl hn1 hn2 hnn sq I2 hz hTI hTO hi (fun c hcm => I1.fpOk (fresh3 hcm) (I1.hok.fresh (fresh3 hcm))) q
theorem r_zipL {K : PySem.W.Frag} {m : Nat} {ta : TA} {σ : L2.St} {H : Hp} {Q : VK} (h : ta σ H fun vs H1 => rZipL K m vs H1 Q) : tZipL K m ta σ H Q := h
theorem r_zipL3 {K : PySem.W.Frag} {H : Hp} {Q : VK} {a b c : Addr} {xs ys zs : List V} (n : Nat) (h1 : SqL K H a xs) (h2 : SqL K H b ys) (h3 : SqL K H c zs) (e1 : xs.length = n) (e2 : ys.length = n) (e3 : zs.length = n) (hn : n ≤ 100000) (q : ∀ H' p ts, ZOut H H' p [xs, ys, zs] n ts → Q (.ref p) H') : rZipL K 3 [.ref a, .ref b, .ref c] H Q :=
  ⟨[a, b, c], [xs, ys, zs], n, rfl, rfl, rfl, fun us hz => by
    simp only [List.mem_cons, List.not_mem_nil, or_false] at hz
    rcases hz with rfl | rfl | rfl <;> omega, ⟨xs, by simp, e1⟩, hn, fun m a xs em ex => match m, em, ex with
    | 0, em, ex => by cases em; cases ex; exact h1
    | 1, em, ex => by cases em; cases ex; exact h2
    | 2, em, ex => by cases em; cases ex; exact h3, q⟩
set_option Elab.async false
set_option linter.all false
set_option maxRecDepth 100000
set_option maxHeartbeats 4000000
theorem pget_list {X : Cx} : PGet X (rIxL X.K) := by
  intro pins s σ H x y v u Q I rx ry h
  obtain ⟨p, xs, i, z, rfl, rfl, hq, he, q⟩ := h
  cases rx
  obtain ⟨t, rfl⟩ := ry
  obtain ⟨its, r, pl, hz⟩ := I.list hq
  obtain ⟨j, h1, h2, h3, h4, h5⟩ := atI_get he
  obtain ⟨w, ew, rw'⟩ := r.get h2
  have hl := r.length
  have hn := line63
  have fin : EP X pins σ Q w s := ⟨z, H, I, rw', q⟩
  by_cases h0 : 0 ≤ i
  · have hj : i.toNat = j := by
      rw [seqIndex_of h0 h5] at h1
      exact Option.some.inj h1
    exact wpAny_getItem_list pl.isList h0 (by omega) (by rw [hj]; simpa using ew) fin
  · have hj : (i + (its.toArray.size : Int)).toNat = j := by
      rw [seqIndex_neg (by omega) h4] at h1
      rw [List.size_toArray, ← hl]
      exact Option.some.inj h1
    exact wpAny_getItem_list_neg pl.isList (by omega) (by rw [List.size_toArray] <;> omega) (by omega) (by rw [hj]; simpa using ew) fin
theorem r_augS {to ti te : TE} {tget : V → V → Hp → VK → Prop} {tip : TIp} {tset : TSet} {D : Ends} {σ : L2.St} {H : Hp}
    (h : to σ H fun o H1 => ti σ H1 fun i H2 => tget o i H2 fun x H3 => te σ H3 fun y H4 => tip x y H4 fun z H5 => tset o i z H5 fun H6 => D.nx σ H6) : tAugS to ti te tget tip tset D σ H := h
theorem r_ipI {f : Int → Int → Int} {i j : Int} {H : Hp} {Q : VK} (q : Q (.int (f i j)) H) : ipI f (.int i) (.int j) H Q := ⟨i, j, rfl, rfl, q⟩
def tCallKw (n : Nat) (sp : Sp) (g : List V → List V → List V) (tk : TA) : TE := fun σ H Q => tk σ H fun zs H2 => zs.length = n ∧ sp (g [] zs) H2 Q E0
section
variable {X : Cx} {x q : Str} {st : Stmt} {ps : List Str} {k j : Nat} {sp : Sp} {p pos : Pos}
theorem pe_fK {kws : List Keyword} {tk : TA} {ks : List Str} {g : {α : Type} → List α → List α → List α} (h : Fk X.prog X.w X.K X.mg X.base x ps k sp st q) (hr : Room j X.A) (kb : KwOk x q st ps ks 0 g)
    (rel : ∀ {vs : List V} {us : List Value} {zs : List V} {ws : List Value}, Vals vs us → Vals zs ws → zs.length = ks.length → vs.length = 0 → Vals (g vs zs) (g us ws)) (hkw : PK X kws tk) (hj : k ≤ j := by decide) (hg : Gl X x := by rfl) (hdb : (x == ("__debug__" : Str)) = false := by decide)
    (hall : (backToKw pos (keywordEach kws X.env)).all (·.1.isSome) = true := by rfl) (hks : (backToKw pos (keywordEach kws X.env)).filterMap (·.1) = ks := by rfl)
    (hpl : ((backTo pos (starEach [] X.env)).any (·.1) || (backToKw pos (keywordEach kws X.env)).any (·.1.isNone)) = false := by rfl) : PE X (.Call (.Name x p) [] kws pos) (tCallKw ks.length sp g tk) := by
  obtain ⟨f, fd, F, hm, kp, b, fu⟩ := h.ex
  have to := kw_to fu kb
  refine ⟨fun pins s σ H Q I hh => wpAny_Call_Name_kw (ld_glob I hg hm ?_ hdb)⟩
  refine PySem.W.callWith_KW0 (h₀ := X.base) (first := []) I.ok.mod.kin kp hall (thn (hkw.run pos pins s σ H _ I hh) fun ws s2 ⟨zs, H2, I2, rz, hz, q2⟩ => ⟨I2.kIn, ?_⟩) hpl
  rw [hks]
  have r0 : Vals [] [] := .nil
  have r2 := rel r0 rz hz rfl
  refine wpAny_call (codeAny_mono (F.run X.A X.stack s2 H2 ⟨[], ks.zip ws⟩ (g [] ws) (g [] zs) Q E0 (hr.mono hj) I2.env0 (to s2 [] ws rfl (rz.length.symm.trans hz)) r2 q2) fun r s' hq => ?_)
  cases r with
  | error e => exact hq.elim
  | ok fl =>
    cases fl with
    | ret u => exact I2.after hq
    | next => exact False.elim hq
    | brk => exact False.elim hq
    | cont => exact False.elim hq
end
theorem r_callKw {n : Nat} {sp : Sp} {g : List V → List V → List V} {tk : TA} {σ : L2.St} {H : Hp} {Q : VK} (h : tk σ H fun zs H2 => zs.length = n ∧ sp (g [] zs) H2 Q E0) : tCallKw n sp g tk σ H Q := h
theorem r_ckw {r : List V → List V → Hp → VK → Prop} {t tk : TA} {σ : L2.St} {H : Hp} {Q : VK} (h : t σ H fun vs H1 => tk σ H1 fun zs H2 => r vs zs H2 Q) : tCKw r t tk σ H Q := h
set_option maxHeartbeats 4000000
/-- the greatest sums so far -/
def ceilF (hi b : Nat → Int) : Nat → Int
  | 0 => 0
  | t + 1 => min (hi (t + 1)) (ceilF hi b t + b t)
def floorF (lo a : Nat → Int) : Nat → Int
  | 0 => 0
  | t + 1 => max (lo (t + 1)) (floorF lo a t + a t)
/-- from the end back: k times before n -/
def backC (C a : Nat → Int) (n : Nat) : Nat → Int
  | 0 => C n
  | k + 1 => min (C (n - (k + 1))) (backC C a n k - a (n - (k + 1)))
def backF (F b : Nat → Int) (n : Nat) : Nat → Int
  | 0 => F n
  | k + 1 => max (F (n - (k + 1))) (backF F b n k - b (n - (k + 1)))
/-- the sums of a row -/
structure RowS (n : Nat) (lo hi a b : Nat → Int) (X : Nat → Int) : Prop where
  zero : X 0 = 0
  low : ∀ t, t ≤ n → lo t ≤ X t
  high : ∀ t, t ≤ n → X t ≤ hi t
  least : ∀ t, t < n → a t ≤ X (t + 1) - X t
  most : ∀ t, t < n → X (t + 1) - X t ≤ b t
section
variable {n : Nat} {lo hi a b X : Nat → Int}
theorem RowS.ceil (r : RowS n lo hi a b X) : ∀ t, t ≤ n → X t ≤ ceilF hi b t
  | 0, _ => by rw [r.zero]; exact Int.le_refl _
  | t + 1, h => by
    have := r.ceil t (by omega)
    have := r.high (t + 1) h
    have := r.most t (by omega)
    unfold ceilF
    omega
theorem RowS.floor (r : RowS n lo hi a b X) : ∀ t, t ≤ n → floorF lo a t ≤ X t
  | 0, _ => by rw [r.zero]; exact Int.le_refl _
  | t + 1, h => by
    have := r.floor t (by omega)
    have := r.low (t + 1) h
    have := r.least t (by omega)
    unfold floorF
    omega
theorem RowS.back (r : RowS n lo hi a b X) : ∀ k, k ≤ n → X (n - k) ≤ backC (ceilF hi b) a n k
  | 0, _ => r.ceil n (Nat.le_refl _)
  | k + 1, h => by
    have h1 := r.back k (by omega)
    have h2 := r.ceil (n - (k + 1)) (by omega)
    have h3 := r.least (n - (k + 1)) (by omega)
    rw [show n - (k + 1) + 1 = n - k by omega] at h3
    unfold backC
    omega
theorem RowS.backL (r : RowS n lo hi a b X) : ∀ k, k ≤ n → backF (floorF lo a) b n k ≤ X (n - k)
  | 0, _ => r.floor n (Nat.le_refl _)
  | k + 1, h => by
    have h1 := r.backL k (by omega)
    have h2 := r.floor (n - (k + 1)) (by omega)
    have h3 := r.most (n - (k + 1)) (by omega)
    rw [show n - (k + 1) + 1 = n - k by omega] at h3
    unfold backF
    omega
/-- the greatest sums of all -/
def topF (hi a b : Nat → Int) (n t : Nat) : Int := backC (ceilF hi b) a n (n - t)
def botF (lo a b : Nat → Int) (n t : Nat) : Int := backF (floorF lo a) b n (n - t)
theorem topF_n : topF hi a b n n = ceilF hi b n := by unfold topF; rw [Nat.sub_self]; rfl
theorem botF_n : botF lo a b n n = floorF lo a n := by unfold botF; rw [Nat.sub_self]; rfl
theorem topF_at {t : Nat} (h : t < n) : topF hi a b n t = min (ceilF hi b t) (topF hi a b n (t + 1) - a t) := by
  unfold topF
  rw [show n - t = n - (t + 1) + 1 by omega]
  show min (ceilF hi b (n - (n - (t + 1) + 1))) _ = _
  rw [show n - (n - (t + 1) + 1) = t by omega]
theorem botF_at {t : Nat} (h : t < n) : botF lo a b n t = max (floorF lo a t) (botF lo a b n (t + 1) - b t) := by
  unfold botF
  rw [show n - t = n - (t + 1) + 1 by omega]
  show max (floorF lo a (n - (n - (t + 1) + 1))) _ = _
  rw [show n - (n - (t + 1) + 1) = t by omega]
theorem RowS.top (r : RowS n lo hi a b X) {t : Nat} (h : t ≤ n) : X t ≤ topF hi a b n t := by
  have := r.back (n - t) (by omega)
  rw [show n - (n - t) = t by omega] at this
  exact this
theorem RowS.bot (r : RowS n lo hi a b X) {t : Nat} (h : t ≤ n) : botF lo a b n t ≤ X t := by
  have := r.backL (n - t) (by omega)
  rw [show n - (n - t) = t by omega] at this
  exact this
theorem topF_le {t : Nat} (h : t ≤ n) : topF hi a b n t ≤ ceilF hi b t := by
  by_cases c : t = n
  · subst c
    rw [topF_n]
    exact Int.le_refl _
  · rw [topF_at (by omega)]
    exact Int.min_le_left _ _
theorem botF_le {t : Nat} (h : t ≤ n) : floorF lo a t ≤ botF lo a b n t := by
  by_cases c : t = n
  · subst c
    rw [botF_n]
    exact Int.le_refl _
  · rw [botF_at (by omega)]
    exact Int.le_max_left _ _
theorem ceil_hi (h0 : hi 0 = 0) : ∀ t, ceilF hi b t ≤ hi t
  | 0 => by rw [h0]; exact Int.le_refl _
  | t + 1 => Int.min_le_left _ _
theorem floor_lo (h0 : lo 0 = 0) : ∀ t, lo t ≤ floorF lo a t
  | 0 => by rw [h0]; exact Int.le_refl _
  | t + 1 => Int.le_max_left _ _
/-- where there is a row, the greatest sums are those of one -/
theorem RowS.topR (r : RowS n lo hi a b X) (h0 : hi 0 = 0) (ab : ∀ t, t < n → a t ≤ b t) : RowS n lo hi a b (topF hi a b n) := by
  refine ⟨?_, fun t h => Int.le_trans (r.low t h) (r.top h), fun t h => Int.le_trans (topF_le h) (ceil_hi h0 t), fun t h => ?_, fun t h => ?_⟩
  · have h1 : topF hi a b n 0 ≤ 0 := topF_le (hi := hi) (a := a) (b := b) (Nat.zero_le n)
    have h2 := r.top (Nat.zero_le n)
    rw [r.zero] at h2
    omega
  · rw [topF_at h]
    omega
  · have h1 : topF hi a b n (t + 1) ≤ ceilF hi b (t + 1) := topF_le (by omega)
    have h2 : ceilF hi b (t + 1) ≤ ceilF hi b t + b t := Int.min_le_right _ _
    have h3 := ab t h
    rw [topF_at h]
    omega
theorem RowS.botR (r : RowS n lo hi a b X) (h0 : lo 0 = 0) (ab : ∀ t, t < n → a t ≤ b t) : RowS n lo hi a b (botF lo a b n) := by
  refine ⟨?_, fun t h => Int.le_trans (floor_lo h0 t) (botF_le h), fun t h => Int.le_trans (r.bot h) (r.high t h), fun t h => ?_, fun t h => ?_⟩
  · have h1 : 0 ≤ botF lo a b n 0 := botF_le (lo := lo) (a := a) (b := b) (Nat.zero_le n)
    have h2 := r.bot (Nat.zero_le n)
    rw [r.zero] at h2
    omega
  · have h1 : floorF lo a (t + 1) ≤ botF lo a b n (t + 1) := botF_le (by omega)
    have h2 : floorF lo a t + a t ≤ floorF lo a (t + 1) := Int.le_max_right _ _
    have h3 := ab t h
    rw [botF_at h]
    omega
  · rw [botF_at h]
    omega
/-- by all pairs of times -/
def sumF (g : Nat → Int) : Nat → Int
  | 0 => 0
  | t + 1 => sumF g t + g t
end
set_option maxHeartbeats 4000000
def ent (X : Nat → Int) (i : Nat) : Int := X (i + 1) - X i
def clampF (a b : Nat → Int) (i : Nat) (c : Int) : Int := min (b i) (max (a i) c)
/-- the bounds of the sums let 1 be brought from the entry p to the entry q -/
def Goes (lo hi X : Nat → Int) (p q : Nat) : Prop := (∀ t, p < t → t ≤ q → lo t < X t) ∧ (∀ t, q < t → t ≤ p → X t < hi t)
structure BestS (n : Nat) (lo hi a b X : Nat → Int) : Prop where
  row : RowS n lo hi a b X
  even : ∀ p q, p < n → q < n → a p < ent X p → ent X q < b q → Goes lo hi X p q → ent X p ≤ ent X q + 1
/-- the times inside at a rate: what can be reached from an entry above its bound at the rate -/
inductive Ins (n : Nat) (lo hi a b X : Nat → Int) (c : Int) : Nat → Prop
  | src {i : Nat} : i < n → clampF a b i c < ent X i → Ins n lo hi a b X c i
  | right {i : Nat} : Ins n lo hi a b X c i → i + 1 < n → lo (i + 1) < X (i + 1) → Ins n lo hi a b X c (i + 1)
  | left {i : Nat} : Ins n lo hi a b X c (i + 1) → X (i + 1) < hi (i + 1) → Ins n lo hi a b X c i
section
variable {n : Nat} {lo hi a b X Y : Nat → Int} {c : Int}
theorem Ins.lt {i : Nat} (h : Ins n lo hi a b X c i) : i < n := by
  induction h with
  | src h _ => exact h
  | right _ h _ _ => exact h
  | left _ _ ih => omega
theorem Ins.from_ {i : Nat} (h : Ins n lo hi a b X c i) : ∃ p, p < n ∧ clampF a b p c < ent X p ∧ Goes lo hi X p i := by
  induction h with
  | @src i h g => exact ⟨i, h, g, fun t h1 h2 => absurd h1 (by omega), fun t h1 h2 => absurd h1 (by omega)⟩
  | @right i _ h g ih =>
    obtain ⟨p, hp, s, g1, g2⟩ := ih
    refine ⟨p, hp, s, fun t h1 h2 => ?_, fun t h1 h2 => g2 t (by omega) h2⟩
    by_cases e : t = i + 1
    · subst e
      exact g
    · exact g1 t h1 (by omega)
  | @left i _ g ih =>
    obtain ⟨p, hp, s, g1, g2⟩ := ih
    refine ⟨p, hp, s, fun t h1 h2 => g1 t h1 (by omega), fun t h1 h2 => ?_⟩
    by_cases e : t = i + 1
    · subst e
      exact g
    · exact g2 t (by omega) h2
theorem RowS.ent_least (r : RowS n lo hi a b X) {i : Nat} (h : i < n) : a i ≤ ent X i := r.least i h
theorem RowS.ent_most (r : RowS n lo hi a b X) {i : Nat} (h : i < n) : ent X i ≤ b i := r.most i h
theorem BestS.ins_ge (r : BestS n lo hi a b X) {i : Nat} (h : Ins n lo hi a b X c i) : clampF a b i c ≤ ent X i := by
  obtain ⟨p, hp, s, g⟩ := h.from_
  by_cases e : clampF a b i c ≤ ent X i
  · exact e
  · have h1 := r.row.ent_least hp
    have h2 := r.row.ent_most hp
    have h3 := r.row.ent_least h.lt
    have h4 := r.row.ent_most h.lt
    unfold clampF at s e
    have := r.even p i hp h.lt (by omega) (by omega) g
    omega
theorem not_ins {i : Nat} (hi' : i < n) (h : ¬ Ins n lo hi a b X c i) : ent X i ≤ clampF a b i c := by
  by_cases e : ent X i ≤ clampF a b i c
  · exact e
  · exact absurd (.src hi' (by omega)) h
theorem ins_exit (r : RowS n lo hi a b X) (tot : lo n = hi n) {i : Nat} (h : Ins n lo hi a b X c i) (h2 : ¬ Ins n lo hi a b X c (i + 1)) : X (i + 1) = lo (i + 1) := by
  have hl := h.lt
  have h3 := r.low (i + 1) (by omega)
  have h4 := r.high (i + 1) (by omega)
  by_cases e : i + 1 = n
  · rw [e] at h3 h4 ⊢
    omega
  · by_cases e2 : lo (i + 1) < X (i + 1)
    · exact absurd (.right h (by omega) e2) h2
    · omega
theorem ins_enter (r : RowS n lo hi a b X) {i : Nat} (h : ¬ Ins n lo hi a b X c i) (h2 : Ins n lo hi a b X c (i + 1)) : X (i + 1) = hi (i + 1) := by
  have hl := h2.lt
  have h4 := r.high (i + 1) (by omega)
  by_cases e2 : X (i + 1) < hi (i + 1)
  · exact absurd (.left h2 e2) h
  · omega
theorem Ins.mono {c c' : Int} {i : Nat} (h : Ins n lo hi a b X c' i) (l : c ≤ c') : Ins n lo hi a b X c i := by
  induction h with
  | @src i h g => exact .src h (by unfold clampF at *; omega)
  | right _ h g ih => exact .right ih h g
  | left _ g ih => exact .left ih g
theorem ins_top (r : RowS n lo hi a b X) (h : ∀ i, i < n → b i ≤ c) {i : Nat} : ¬ Ins n lo hi a b X c i := fun m => by
  obtain ⟨p, hp, s, _⟩ := m.from_
  have h1 := r.ent_most hp
  have h2 := h p hp
  unfold clampF at s
  omega
def swapX (X : Nat → Int) (p q t : Nat) : Int := X t - (if p < t ∧ t ≤ q then 1 else 0) + (if q < t ∧ t ≤ p then 1 else 0)
theorem swap_ent {p q i : Nat} (h : p ≠ q) : ent (swapX X p q) i = ent X i - (if i = p then 1 else 0) + (if i = q then 1 else 0) := by
  unfold ent swapX
  rcases Nat.lt_or_gt_of_ne h with g | g
  · rcases Nat.lt_trichotomy i p with c1 | c1 | c1 <;> rcases Nat.lt_trichotomy i q with c2 | c2 | c2 <;>
      (repeat (first | rw [if_pos (by omega)] | rw [if_neg (by omega)])) <;> omega
  · rcases Nat.lt_trichotomy i p with c1 | c1 | c1 <;> rcases Nat.lt_trichotomy i q with c2 | c2 | c2 <;>
      (repeat (first | rw [if_pos (by omega)] | rw [if_neg (by omega)])) <;> omega
theorem sumF_at {f : Nat → Int} {p : Nat} {y : Int} : ∀ {n : Nat}, p < n → sumF (fun i => if i = p then y else f i) n = sumF f n - f p + y
  | 0, h => absurd h (by omega)
  | n + 1, h => by
    show sumF (fun i => if i = p then y else f i) n + (if n = p then y else f n) = sumF f n + f n - f p + y
    by_cases e : n = p
    · subst e
      rw [if_pos rfl]
      have : ∀ m, m ≤ n → sumF (fun i => if i = n then y else f i) m = sumF f m := fun m => by
        induction m with
        | zero => intro _; rfl
        | succ m ih =>
          intro hm
          show sumF (fun i => if i = n then y else f i) m + (if m = n then y else f m) = sumF f m + f m
          rw [ih (by omega), if_neg (by omega)]
      rw [this n (Nat.le_refl _)]
      omega
    · rw [if_neg e, sumF_at (by omega)]
      omega
theorem sumF_congr {f g : Nat → Int} : ∀ {n : Nat}, (∀ i, i < n → f i = g i) → sumF f n = sumF g n
  | 0, _ => rfl
  | n + 1, h => by
    show sumF f n + f n = sumF g n + g n
    rw [sumF_congr fun i hi => h i (by omega), h n (by omega)]
theorem sumF_nonneg {f : Nat → Int} : ∀ {n : Nat}, (∀ i, i < n → 0 ≤ f i) → 0 ≤ sumF f n
  | 0, _ => Int.le_refl _
  | n + 1, h => by
    show 0 ≤ sumF f n + f n
    have := sumF_nonneg (n := n) fun i hi => h i (by omega)
    have := h n (by omega)
    omega
def sqX (X : Nat → Int) (n : Nat) : Int := sumF (fun i => ent X i * ent X i) n
theorem sq_nonneg (x : Int) : 0 ≤ x * x := by
  rcases Int.le_total 0 x with h | h
  · exact Int.mul_nonneg h h
  · exact Int.mul_nonneg_of_nonpos_of_nonpos h h
theorem sqX_nonneg : 0 ≤ sqX X n := sumF_nonneg fun i _ => sq_nonneg _
theorem sq_down (x : Int) : (x - 1) * (x - 1) = x * x - 2 * x + 1 := by rw [Int.sub_mul, Int.mul_sub]; omega
theorem sq_up (x : Int) : (x + 1) * (x + 1) = x * x + 2 * x + 1 := by rw [Int.add_mul, Int.mul_add]; omega
theorem swap_sq {p q : Nat} (h : p ≠ q) (hp : p < n) (hq : q < n) : sqX (swapX X p q) n = sqX X n - 2 * ent X p + 2 * ent X q + 2 := by
  have e : sqX (swapX X p q) n = sumF (fun i => if i = p then (ent X p - 1) * (ent X p - 1) else (fun i => if i = q then (ent X q + 1) * (ent X q + 1) else ent X i * ent X i) i) n := by
    refine sumF_congr fun i _ => ?_
    rw [swap_ent h]
    by_cases e1 : i = p
    · subst e1
      rw [if_pos rfl, if_neg h, if_pos rfl, Int.add_zero]
    · rw [if_neg e1, if_neg e1]
      by_cases e2 : i = q
      · subst e2
        rw [if_pos rfl]
        show _ = if i = i then _ else _
        rw [if_pos rfl, Int.sub_zero]
      · rw [if_neg e2]
        show _ = if i = q then _ else _
        rw [if_neg e2, Int.sub_zero, Int.add_zero]
  rw [e, sumF_at hp, sumF_at hq, if_neg h, sq_down, sq_up]
  show sumF (fun i => ent X i * ent X i) n - ent X q * ent X q + (ent X q * ent X q + 2 * ent X q + 1) - ent X p * ent X p + (ent X p * ent X p - 2 * ent X p + 1) = sumF (fun i => ent X i * ent X i) n - 2 * ent X p + 2 * ent X q + 2
  omega
theorem swap_row (r : RowS n lo hi a b X) {p q : Nat} (h : p ≠ q) (hp : p < n) (hq : q < n) (sp : a p < ent X p) (sq : ent X q < b q) (g : Goes lo hi X p q) : RowS n lo hi a b (swapX X p q) := by
  refine ⟨?_, fun t ht => ?_, fun t ht => ?_, fun t ht => ?_, fun t ht => ?_⟩
  · unfold swapX
    rw [if_neg (by omega), if_neg (by omega), r.zero]
    rfl
  · have h1 := r.low t ht
    unfold swapX
    by_cases c1 : p < t ∧ t ≤ q
    · have := g.1 t c1.1 c1.2
      rw [if_pos c1, if_neg (by omega)]
      omega
    · rw [if_neg c1]
      split <;> omega
  · have h1 := r.high t ht
    unfold swapX
    by_cases c1 : q < t ∧ t ≤ p
    · have := g.2 t c1.1 c1.2
      rw [if_pos c1, if_neg (by omega)]
      omega
    · rw [if_neg c1]
      split <;> omega
  · have h1 := r.ent_least ht
    have e := swap_ent (X := X) (i := t) h
    show a t ≤ ent (swapX X p q) t
    rw [e]
    by_cases c1 : t = p
    · subst c1
      rw [if_pos rfl, if_neg h]
      omega
    · rw [if_neg c1]
      split <;> omega
  · have h1 := r.ent_most ht
    have e := swap_ent (X := X) (i := t) h
    show ent (swapX X p q) t ≤ b t
    rw [e]
    by_cases c1 : t = q
    · subst c1
      rw [if_pos rfl, if_neg (by omega)]
      omega
    · rw [if_neg c1]
      split <;> omega
theorem best_ex_aux : ∀ (k : Nat) (X : Nat → Int), RowS n lo hi a b X → (sqX X n).toNat ≤ k → ∃ Y, BestS n lo hi a b Y ∧ sqX Y n ≤ sqX X n
  | k, X, r, hk => by
    by_cases e : ∀ p q, p < n → q < n → a p < ent X p → ent X q < b q → Goes lo hi X p q → ent X p ≤ ent X q + 1
    · exact ⟨X, ⟨r, e⟩, Int.le_refl _⟩
    · simp only [Classical.not_forall] at e
      obtain ⟨p, q, hp, hq, h1, h2, g, e⟩ := e
      have ne : p ≠ q := fun z => by
        subst z
        omega
      have r2 := swap_row r ne hp hq h1 h2 g
      have e2 := swap_sq (X := X) ne hp hq
      have n1 := sqX_nonneg (X := X) (n := n)
      have n2 := sqX_nonneg (X := swapX X p q) (n := n)
      cases k with
      | zero => exact absurd hk (by omega)
      | succ k =>
        obtain ⟨Y, h3, h4⟩ := best_ex_aux k (swapX X p q) r2 (by omega)
        exact ⟨Y, h3, by omega⟩
theorem RowS.best (r : RowS n lo hi a b X) : ∃ Y, BestS n lo hi a b Y := by
  obtain ⟨Y, h, _⟩ := best_ex_aux _ X r (Nat.le_refl _)
  exact ⟨Y, h⟩
end
set_option maxHeartbeats 4000000
/-- at each time the greatest rate at which it is inside, or c0 -/
structure Lev (n : Nat) (lo hi a b : Nat → Int) (c0 : Int) (l X : Nat → Int) : Prop where
  ge : ∀ i, i < n → c0 ≤ l i
  ins : ∀ i, i < n → c0 < l i → Ins n lo hi a b X (l i) i
  out : ∀ i, i < n → ¬ Ins n lo hi a b X (l i + 1) i
def nlo (lo hi l : Nat → Int) (n t : Nat) : Int := if 0 < t ∧ t < n ∧ l (t - 1) < l t then hi t else lo t
def nhi (lo hi l : Nat → Int) (n t : Nat) : Int := if 0 < t ∧ t < n ∧ l t < l (t - 1) then lo t else hi t
def nle (a b l : Nat → Int) (i : Nat) : Int := clampF a b i (l i)
def nmo (a b l : Nat → Int) (i : Nat) : Int := clampF a b i (l i + 1)
section
variable {n : Nat} {lo hi a b X Y l : Nat → Int} {c c0 : Int}
theorem Lev.out_gt (v : Lev n lo hi a b c0 l X) {i : Nat} (h : i < n) {r : Int} (hr : l i < r) : ¬ Ins n lo hi a b X r i := fun m => v.out i h (m.mono (by omega))
/-- each best row is a row of the narrow plan -/
theorem narrow_of_best (v : Lev n lo hi a b c0 l X) (r : BestS n lo hi a b X) (tot : lo n = hi n) (h0 : ∀ i, i < n → c0 < a i) : RowS n (nlo lo hi l n) (nhi lo hi l n) (nle a b l) (nmo a b l) X := by
  refine ⟨r.row.zero, fun t ht => ?_, fun t ht => ?_, fun t ht => ?_, fun t ht => ?_⟩
  · unfold nlo
    split
    · next h =>
      obtain ⟨h1, h2, h3⟩ := h
      have i1 := v.ins t h2 (by have := v.ge (t - 1) (by omega); omega)
      have i2 := v.out_gt (i := t - 1) (by omega) h3
      have e : t = t - 1 + 1 := by omega
      have := ins_enter r.row i2 (by rw [← e]; exact i1)
      rw [← e] at this
      omega
    · exact r.row.low t ht
  · unfold nhi
    split
    · next h =>
      obtain ⟨h1, h2, h3⟩ := h
      have i1 := v.ins (t - 1) (by omega) (by have := v.ge t (by omega); omega)
      have i2 := v.out_gt (i := t) (by omega) h3
      have e : t = t - 1 + 1 := by omega
      have := ins_exit r.row tot i1 (by rw [← e]; exact i2)
      rw [← e] at this
      omega
    · exact r.row.high t ht
  · show nle a b l t ≤ ent X t
    unfold nle
    by_cases e : c0 < l t
    · exact r.ins_ge (v.ins t ht e)
    · have := r.row.ent_least ht
      have := v.ge t ht
      have := h0 t ht
      unfold clampF
      omega
  · exact not_ins ht (v.out t ht)
/-- each row of the narrow plan is best -/
theorem RowS.of_narrow (r : RowS n (nlo lo hi l n) (nhi lo hi l n) (nle a b l) (nmo a b l) X) (lh : ∀ t, t ≤ n → lo t ≤ hi t) (ab : ∀ i, i < n → a i ≤ b i) : RowS n lo hi a b X := by
  refine ⟨r.zero, fun t ht => ?_, fun t ht => ?_, fun t ht => ?_, fun t ht => ?_⟩
  · have h1 := r.low t ht
    have h2 := lh t ht
    unfold nlo at h1
    split at h1 <;> omega
  · have h1 := r.high t ht
    have h2 := lh t ht
    unfold nhi at h1
    split at h1 <;> omega
  · have h1 := r.least t ht
    have h2 := ab t ht
    unfold nle clampF at h1
    omega
  · have h1 := r.most t ht
    have h2 := ab t ht
    unfold nmo clampF at h1
    omega
theorem best_of_narrow (r : RowS n (nlo lo hi l n) (nhi lo hi l n) (nle a b l) (nmo a b l) X) (lh : ∀ t, t ≤ n → lo t ≤ hi t) (ab : ∀ i, i < n → a i ≤ b i) : BestS n lo hi a b X := by
  refine ⟨r.of_narrow lh ab, fun p q hp hq sp sq g => ?_⟩
  have h1 : l p ≤ l q := by
    rcases Nat.lt_or_ge p q with hpq | hpq
    · have up : ∀ k, p + k ≤ q → l p ≤ l (p + k) := fun k => by
        induction k with
        | zero => intro _; exact Int.le_refl _
        | succ k ih =>
          intro hk
          have := ih (by omega)
          have h2 := g.1 (p + (k + 1)) (by omega) hk
          have h3 := r.high (p + (k + 1)) (by omega)
          unfold nhi at h3
          by_cases e : l (p + (k + 1)) < l (p + k)
          · rw [if_pos ⟨by omega, by omega, by rw [show p + (k + 1) - 1 = p + k by omega]; exact e⟩] at h3
            omega
          · omega
      have := up (q - p) (by omega)
      rw [show p + (q - p) = q by omega] at this
      exact this
    · have up : ∀ k, q + k ≤ p → l (q + k) ≤ l q := fun k => by
        induction k with
        | zero => intro _; exact Int.le_refl _
        | succ k ih =>
          intro hk
          have := ih (by omega)
          have h2 := g.2 (q + (k + 1)) (by omega) hk
          have h3 := r.low (q + (k + 1)) (by omega)
          unfold nlo at h3
          by_cases e : l (q + k) < l (q + (k + 1))
          · rw [if_pos ⟨by omega, by omega, by rw [show q + (k + 1) - 1 = q + k by omega]; exact e⟩] at h3
            omega
          · omega
      have := up (p - q) (by omega)
      rw [show q + (p - q) = p by omega] at this
      exact this
  have h2 : ent X p ≤ nmo a b l p := r.most p hp
  have h3 : nle a b l q ≤ ent X q := r.least q hq
  unfold nmo clampF at h2
  unfold nle clampF at h3
  omega
mutual
def dpO (lo hi e : Nat → Int) (f : Nat) (L : Bool) : Nat → Int
  | 0 => if L then lo f else 0
  | k + 1 => max (dpO lo hi e f L k) (dpN lo hi e f L k + lo (f + k + 1))
def dpN (lo hi e : Nat → Int) (f : Nat) (L : Bool) : Nat → Int
  | 0 => (if L then 0 else -hi f) - e f
  | k + 1 => max (dpN lo hi e f L k) (dpO lo hi e f L k - hi (f + k + 1)) - e (f + k + 1)
end
/-- back from the end: whether the time f + k is inside, if the one behind is so or not -/
def stepB (lo hi e : Nat → Int) (f : Nat) (L : Bool) (k : Nat) (y : Bool) : Bool :=
  if y then decide (dpN lo hi e f L k > dpO lo hi e f L k - hi (f + k + 1)) else decide (dpN lo hi e f L k + lo (f + k + 1) > dpO lo hi e f L k)
/-- the times m - 1 - j .. of a part with m times, from the end -/
def backB (lo hi e : Nat → Int) (f m : Nat) (L R : Bool) : Nat → Bool
  | 0 => R
  | j + 1 => stepB lo hi e f L (m - (j + 1)) (backB lo hi e f m L R j)
def gapF (a b X : Nat → Int) (c : Int) (i : Nat) : Int := ent X i - clampF a b i c
def gapS (a b X : Nat → Int) (c : Int) (f : Nat) : Nat → Int
  | 0 => max (gapF a b X c f) 0
  | k + 1 => gapS a b X c f k + max (gapF a b X c (f + k + 1)) 0
/-- a set of times of a part up to f + k that is closed as far as it goes -/
structure ClosedP (lo hi a b X : Nat → Int) (c : Int) (f : Nat) (L : Bool) (k : Nat) (T : Nat → Prop) : Prop where
  src : ∀ j, j ≤ k → 0 < gapF a b X c (f + j) → T (f + j)
  right : ∀ j, j < k → T (f + j) → lo (f + j + 1) < X (f + j + 1) → T (f + j + 1)
  left : ∀ j, j < k → T (f + j + 1) → X (f + j + 1) < hi (f + j + 1) → T (f + j)
  inn : L = true → lo f < X f → T f
  out : L = false → X f < hi f → ¬ T f
  far : ∀ j, f + k < j → ¬ T j
def base (X : Nat → Int) (f : Nat) (L : Bool) : Int := if L then X f else 0
theorem dp_zero (L : Bool) (f : Nat) : dpO lo hi (fun i => clampF a b i c) f L 0 - base X f L = (if L then lo f - X f else 0) ∧
    dpN lo hi (fun i => clampF a b i c) f L 0 + X (f + 1) - base X f L = gapF a b X c f - (if L then 0 else hi f - X f) := by
  unfold base gapF ent
  cases L
  · refine ⟨rfl, ?_⟩
    show -hi f - clampF a b f c + X (f + 1) - 0 = X (f + 1) - X f - clampF a b f c - (hi f - X f)
    omega
  · refine ⟨rfl, ?_⟩
    show 0 - clampF a b f c + X (f + 1) - X f = X (f + 1) - X f - clampF a b f c - 0
    omega
theorem dp_le (r : RowS n lo hi a b X) {f : Nat} {L : Bool} (h0 : 0 < f ∨ L = false) : ∀ k, f + k < n → dpO lo hi (fun i => clampF a b i c) f L k - base X f L ≤ gapS a b X c f k ∧ dpN lo hi (fun i => clampF a b i c) f L k + X (f + k + 1) - base X f L ≤ gapS a b X c f k
  | 0, h => by
    obtain ⟨e1, e2⟩ := dp_zero (lo := lo) (hi := hi) (a := a) (b := b) (X := X) (c := c) L f
    rw [Nat.add_zero, e1, e2]
    have h1 := r.low f (by omega)
    have h2 := r.high f (by omega)
    show _ ≤ max (gapF a b X c f) 0 ∧ _ ≤ max (gapF a b X c f) 0
    cases L
    · simp only [Bool.false_eq_true, if_false]
      omega
    · simp only [if_true]
      omega
  | k + 1, h => by
    obtain ⟨h1, h2⟩ := dp_le r (f := f) (L := L) h0 k (by omega)
    have h3 := r.low (f + k + 1) (by omega)
    have h4 := r.high (f + k + 1) (by omega)
    have e1 : dpO lo hi (fun i => clampF a b i c) f L (k + 1) = max (dpO lo hi (fun i => clampF a b i c) f L k) (dpN lo hi (fun i => clampF a b i c) f L k + lo (f + k + 1)) := by rw [dpO]
    have e2 : dpN lo hi (fun i => clampF a b i c) f L (k + 1) = max (dpN lo hi (fun i => clampF a b i c) f L k) (dpO lo hi (fun i => clampF a b i c) f L k - hi (f + k + 1)) - clampF a b (f + k + 1) c := by rw [dpN]
    have e3 : gapS a b X c f (k + 1) = gapS a b X c f k + max (X (f + (k + 1) + 1) - X (f + k + 1) - clampF a b (f + k + 1) c) 0 := rfl
    rw [e1, e2, e3]
    omega
end
set_option maxHeartbeats 4000000
section
variable {n : Nat} {lo hi a b X Y l : Nat → Int} {c c0 : Int}
/-- where the greatest right side is reached, a closed set does so -/
theorem dp_closed (r : RowS n lo hi a b X) {f : Nat} {L : Bool} (hf : 0 < f ∨ L = false) : ∀ k, f + k < n →
    (dpO lo hi (fun i => clampF a b i c) f L k - base X f L = gapS a b X c f k → ∃ T, ClosedP lo hi a b X c f L k T ∧ ¬ T (f + k)) ∧
    (dpN lo hi (fun i => clampF a b i c) f L k + X (f + k + 1) - base X f L = gapS a b X c f k → ∃ T, ClosedP lo hi a b X c f L k T ∧ T (f + k))
  | 0, h => by
    obtain ⟨e1, e2⟩ := dp_zero (lo := lo) (hi := hi) (a := a) (b := b) (X := X) (c := c) L f
    have e3 : gapS a b X c f 0 = max (gapF a b X c f) 0 := rfl
    have h1 := r.low f (by omega)
    have h2 := r.high f (by omega)
    rw [Nat.add_zero, e1, e2, e3]
    constructor
    · intro q
      have g0 : gapF a b X c f ≤ 0 := by
        cases L
        · simp only [Bool.false_eq_true, if_false] at q
          omega
        · simp only [if_true] at q
          omega
      refine ⟨fun _ => False, ⟨fun j hj g => ?_, fun j hj => absurd hj (by omega), fun j hj => absurd hj (by omega), fun hL hx => ?_, fun _ _ z => z, fun _ _ z => z⟩, fun z => z⟩
      · obtain rfl : j = 0 := by omega
        rw [Nat.add_zero] at g
        omega
      · subst hL
        simp only [if_true] at q
        omega
    · intro q
      refine ⟨fun j => j = f, ⟨fun j hj g => by show f + j = f; omega, fun j hj => absurd hj (by omega), fun j hj => absurd hj (by omega), fun _ _ => rfl, fun hL hx z => ?_, fun j hj z => ?_⟩, rfl⟩
      · subst hL
        simp only [Bool.false_eq_true, if_false] at q
        omega
      · have z' : j = f := z
        omega
  | k + 1, h => by
    obtain ⟨h1, h2⟩ := dp_closed r hf k (by omega)
    have h3 := r.low (f + k + 1) (by omega)
    have h4 := r.high (f + k + 1) (by omega)
    have e1 : dpO lo hi (fun i => clampF a b i c) f L (k + 1) = max (dpO lo hi (fun i => clampF a b i c) f L k) (dpN lo hi (fun i => clampF a b i c) f L k + lo (f + k + 1)) := by rw [dpO]
    have e2 : dpN lo hi (fun i => clampF a b i c) f L (k + 1) = max (dpN lo hi (fun i => clampF a b i c) f L k) (dpO lo hi (fun i => clampF a b i c) f L k - hi (f + k + 1)) - clampF a b (f + k + 1) c := by rw [dpN]
    have e3 : gapS a b X c f (k + 1) = gapS a b X c f k + max (X (f + (k + 1) + 1) - X (f + k + 1) - clampF a b (f + k + 1) c) 0 := rfl
    have eg : gapF a b X c (f + k + 1) = X (f + (k + 1) + 1) - X (f + k + 1) - clampF a b (f + k + 1) c := rfl
    have ef : f + (k + 1) = f + k + 1 := rfl
    have bnd := dp_le r hf (c := c) k (by omega)
    rw [e1, e2, e3]
    constructor
    · intro q
      -- the newest one is not above its bound, and one of the two before reached the greatest without a slack
      have g0 : gapF a b X c (f + k + 1) ≤ 0 := by rw [eg]; omega
      have two : (dpO lo hi (fun i => clampF a b i c) f L k - base X f L = gapS a b X c f k) ∨ (dpN lo hi (fun i => clampF a b i c) f L k + X (f + k + 1) - base X f L = gapS a b X c f k ∧ X (f + k + 1) = lo (f + k + 1)) := by
        omega
      rcases two with q1 | ⟨q1, sl⟩
      · obtain ⟨T, C, nt⟩ := h1 q1
        refine ⟨T, ⟨fun j hj g => ?_, fun j hj t x => ?_, fun j hj t x => ?_, C.inn, C.out, fun j hj => C.far j (by omega)⟩, C.far _ (by omega)⟩
        · by_cases e : j = k + 1
          · subst e
            rw [ef] at g
            omega
          · exact C.src j (by omega) g
        · by_cases e : j = k
          · subst e
            exact absurd t nt
          · exact C.right j (by omega) t x
        · by_cases e : j = k
          · subst e
            exact absurd t (C.far _ (by omega))
          · exact C.left j (by omega) t x
      · obtain ⟨T, C, ht⟩ := h2 q1
        refine ⟨T, ⟨fun j hj g => ?_, fun j hj t x => ?_, fun j hj t x => ?_, C.inn, C.out, fun j hj => C.far j (by omega)⟩, C.far _ (by omega)⟩
        · by_cases e : j = k + 1
          · subst e
            rw [ef] at g
            omega
          · exact C.src j (by omega) g
        · by_cases e : j = k
          · subst e
            omega
          · exact C.right j (by omega) t x
        · by_cases e : j = k
          · subst e
            exact ht
          · exact C.left j (by omega) t x
    · intro q
      have two : (dpN lo hi (fun i => clampF a b i c) f L k + X (f + k + 1) - base X f L = gapS a b X c f k) ∨ (dpO lo hi (fun i => clampF a b i c) f L k - base X f L = gapS a b X c f k ∧ X (f + k + 1) = hi (f + k + 1)) := by
        omega
      have fin : ∀ T, ClosedP lo hi a b X c f L k T → (T (f + k) ∨ X (f + k + 1) = hi (f + k + 1)) → ∃ T, ClosedP lo hi a b X c f L (k + 1) T ∧ T (f + (k + 1)) := fun T C hk => by
        refine ⟨fun j => T j ∨ j = f + k + 1, ⟨fun j hj g => ?_, fun j hj t x => ?_, fun j hj t x => ?_, fun hL hx => .inl (C.inn hL hx), fun hL hx z => ?_, fun j hj z => ?_⟩, .inr rfl⟩
        · by_cases e : j = k + 1
          · exact .inr (by omega)
          · exact .inl (C.src j (by omega) g)
        · by_cases e : j = k
          · exact .inr (by omega)
          · rcases t with t | t
            · exact .inl (C.right j (by omega) t x)
            · exact absurd t (by omega)
        · by_cases e : j = k
          · subst e
            rcases hk with hk | hk
            · exact .inl hk
            · omega
          · rcases t with t | t
            · exact .inl (C.left j (by omega) t x)
            · exact absurd t (by omega)
        · rcases z with z | z
          · exact C.out hL hx z
          · exact absurd z (by omega)
        · rcases z with z | z
          · exact C.far j (by omega) z
          · exact absurd z (by omega)
      rcases two with q1 | ⟨q1, sl⟩
      · obtain ⟨T, C, ht⟩ := h2 q1
        exact fin T C (.inl ht)
      · obtain ⟨T, C, nt⟩ := h1 q1
        exact fin T C (.inr sl)
/-- what the neighbours of a part are at a rate -/
def FlagL (n : Nat) (lo hi a b X : Nat → Int) (c : Int) (f : Nat) (L : Bool) : Prop := L = true ↔ 0 < f ∧ Ins n lo hi a b X c (f - 1)
def FlagR (n : Nat) (lo hi a b X : Nat → Int) (c : Int) (t : Nat) (R : Bool) : Prop := R = true ↔ Ins n lo hi a b X c t
/-- the set of what is inside reaches the greatest right side -/
theorem dp_ins (r : BestS n lo hi a b X) (tot : lo n = hi n) (h00 : hi 0 = 0) {f : Nat} {L : Bool} (fl : FlagL n lo hi a b X c f L) : ∀ k, f + k < n →
    (Ins n lo hi a b X c (f + k) → dpN lo hi (fun i => clampF a b i c) f L k + X (f + k + 1) - base X f L = gapS a b X c f k) ∧
    (¬ Ins n lo hi a b X c (f + k) → dpO lo hi (fun i => clampF a b i c) f L k - base X f L = gapS a b X c f k)
  | 0, h => by
    obtain ⟨e1, e2⟩ := dp_zero (lo := lo) (hi := hi) (a := a) (b := b) (X := X) (c := c) L f
    have e3 : gapS a b X c f 0 = max (gapF a b X c f) 0 := rfl
    rw [Nat.add_zero, e1, e2, e3]
    have h1 := r.row.low f (by omega)
    have h2 := r.row.high f (by omega)
    constructor
    · intro m
      have g : clampF a b f c ≤ ent X f := r.ins_ge m
      have eg : gapF a b X c f = ent X f - clampF a b f c := rfl
      cases L
      · simp only [Bool.false_eq_true, if_false]
        have sl : X f = hi f := by
          rcases Nat.eq_zero_or_pos f with z | z
          · rw [z, h00, r.row.zero]
          · have ni : ¬ Ins n lo hi a b X c (f - 1) := fun m2 => by
              have := fl.mpr ⟨z, m2⟩
              cases this
            have e : f = f - 1 + 1 := by omega
            have := ins_enter r.row ni (by rw [← e]; exact m)
            rw [← e] at this
            exact this
        omega
      · simp only [if_true]
        omega
    · intro m
      have g : ent X f ≤ clampF a b f c := not_ins (by omega) m
      have eg : gapF a b X c f = ent X f - clampF a b f c := rfl
      cases L
      · simp only [Bool.false_eq_true, if_false]
        omega
      · simp only [if_true]
        obtain ⟨z, m2⟩ := fl.mp rfl
        have e : f = f - 1 + 1 := by omega
        have := ins_exit r.row tot m2 (by rw [← e]; exact m)
        rw [← e] at this
        omega
  | k + 1, h => by
    obtain ⟨h1, h2⟩ := dp_ins r tot h00 fl k (by omega)
    have h3 := r.row.low (f + k + 1) (by omega)
    have h4 := r.row.high (f + k + 1) (by omega)
    have e1 : dpO lo hi (fun i => clampF a b i c) f L (k + 1) = max (dpO lo hi (fun i => clampF a b i c) f L k) (dpN lo hi (fun i => clampF a b i c) f L k + lo (f + k + 1)) := by rw [dpO]
    have e2 : dpN lo hi (fun i => clampF a b i c) f L (k + 1) = max (dpN lo hi (fun i => clampF a b i c) f L k) (dpO lo hi (fun i => clampF a b i c) f L k - hi (f + k + 1)) - clampF a b (f + k + 1) c := by rw [dpN]
    have e3 : gapS a b X c f (k + 1) = gapS a b X c f k + max (X (f + (k + 1) + 1) - X (f + k + 1) - clampF a b (f + k + 1) c) 0 := rfl
    have hf : 0 < f ∨ L = false := by
      cases L
      · exact .inr rfl
      · exact .inl (fl.mp rfl).1
    have bnd := dp_le r.row (c := c) hf k (by omega)
    rw [e1, e2, e3]
    constructor
    · intro m
      have g : clampF a b (f + k + 1) c ≤ X (f + (k + 1) + 1) - X (f + k + 1) := r.ins_ge m
      by_cases m2 : Ins n lo hi a b X c (f + k)
      · have := h1 m2
        omega
      · have := h2 m2
        have := ins_enter r.row m2 m
        omega
    · intro m
      have g : X (f + (k + 1) + 1) - X (f + k + 1) ≤ clampF a b (f + k + 1) c := not_ins (i := f + k + 1) (by omega) m
      by_cases m2 : Ins n lo hi a b X c (f + k)
      · have := h1 m2
        have := ins_exit r.row tot m2 m
        omega
      · have := h2 m2
        omega
/-- no set without a time inside reaches it -/
theorem dp_strict (r : BestS n lo hi a b X) {f : Nat} {L : Bool} (fl : FlagL n lo hi a b X c f L) {k : Nat} (h : f + k < n) (m : Ins n lo hi a b X c (f + k)) (y : Ins n lo hi a b X c (f + k + 1) → X (f + k + 1) = hi (f + k + 1)) :
    dpO lo hi (fun i => clampF a b i c) f L k - base X f L ≠ gapS a b X c f k := fun q => by
  have hf : 0 < f ∨ L = false := by
    cases L
    · exact .inr rfl
    · exact .inl (fl.mp rfl).1
  obtain ⟨T, C, nt⟩ := (dp_closed r.row hf k h).1 q
  have key : ∀ j, Ins n lo hi a b X c j → f ≤ j → j ≤ f + k → T j := fun j mj => by
    induction mj with
    | @src i h1 g =>
      intro h2 h3
      have := C.src (i - f) (by omega) (by rw [show f + (i - f) = i by omega]; unfold gapF; omega)
      rw [show f + (i - f) = i by omega] at this
      exact this
    | @right i m1 h1 g ih =>
      intro h2 h3
      by_cases e : f ≤ i
      · have := C.right (i - f) (by omega) (by rw [show f + (i - f) = i by omega]; exact ih e (by omega)) (by rw [show f + (i - f) = i by omega]; exact g)
        rw [show f + (i - f) = i by omega] at this
        exact this
      · have e2 : f = i + 1 := by omega
        have hL : L = true := fl.mpr ⟨by omega, by rw [show f - 1 = i by omega]; exact m1⟩
        have := C.inn hL (by rw [e2]; exact g)
        rw [← e2]
        exact this
    | @left i m1 g ih =>
      intro h2 h3
      by_cases e : i = f + k
      · subst e
        have := y m1
        omega
      · have := C.left (i - f) (by omega) (by rw [show f + (i - f) = i by omega]; exact ih (by omega) (by omega)) (by rw [show f + (i - f) = i by omega]; exact g)
        rw [show f + (i - f) = i by omega] at this
        exact this
  exact nt (key _ m (by omega) (Nat.le_refl _))
/-- what is found back from the end is what is inside -/
theorem step_ins (r : BestS n lo hi a b X) (tot : lo n = hi n) (h00 : hi 0 = 0) {f : Nat} {L : Bool} (fl : FlagL n lo hi a b X c f L) {k : Nat} (h : f + k < n) {y : Bool} (hy : FlagR n lo hi a b X c (f + k + 1) y) :
    FlagR n lo hi a b X c (f + k) (stepB lo hi (fun i => clampF a b i c) f L k y) := by
  have hf : 0 < f ∨ L = false := by
    cases L
    · exact .inr rfl
    · exact .inl (fl.mp rfl).1
  have bnd := dp_le r.row (c := c) hf k h
  have h3 := r.row.low (f + k + 1) (by omega)
  have h4 := r.row.high (f + k + 1) (by omega)
  obtain ⟨i1, i2⟩ := dp_ins r tot h00 fl k h
  unfold stepB FlagR
  by_cases m : Ins n lo hi a b X c (f + k)
  · have e1 := i1 m
    refine ⟨fun _ => m, fun _ => ?_⟩
    cases y
    · rw [if_neg (by decide)]
      have ny : ¬ Ins n lo hi a b X c (f + k + 1) := fun z => by
        have := hy.mpr z
        cases this
      have sl := ins_exit r.row tot m ny
      have st := dp_strict r fl h m (fun z => absurd z ny)
      exact decide_eq_true (by omega)
    · rw [if_pos rfl]
      have my := hy.mp rfl
      refine decide_eq_true ?_
      by_cases e : X (f + k + 1) = hi (f + k + 1)
      · have st := dp_strict r fl h m (fun _ => e)
        omega
      · omega
  · have e2 := i2 m
    refine ⟨fun z => ?_, fun z => absurd z m⟩
    cases y
    · rw [if_neg (by decide)] at z
      have z := of_decide_eq_true z
      omega
    · rw [if_pos rfl] at z
      have z := of_decide_eq_true z
      have sl := ins_enter r.row m (hy.mp rfl)
      omega
theorem back_ins (r : BestS n lo hi a b X) (tot : lo n = hi n) (h00 : hi 0 = 0) {f m : Nat} {L R : Bool} (fl : FlagL n lo hi a b X c f L) (fr : FlagR n lo hi a b X c (f + m) R) (hm : f + m ≤ n) : ∀ j, j ≤ m → FlagR n lo hi a b X c (f + (m - j)) (backB lo hi (fun i => clampF a b i c) f m L R j)
  | 0, _ => fr
  | j + 1, h => by
    have ih := back_ins r tot h00 fl fr hm j (by omega)
    refine step_ins r tot h00 fl (k := m - (j + 1)) (by omega) ?_
    rw [show f + (m - (j + 1)) + 1 = f + (m - j) by omega]
    exact ih
end
set_option maxHeartbeats 4000000
structure Part where
  f : Nat
  t : Nat
  L : Bool
  R : Bool
  lw : Int
  hg : Int
structure PartOK (n : Nat) (lo hi a b X : Nat → Int) (c0 : Int) (p : Part) : Prop where
  ft : p.f < p.t
  tn : p.t ≤ n
  cl : c0 ≤ p.lw
  lh : p.lw ≤ p.hg
  ins : ∀ i, p.f ≤ i → i < p.t → c0 < p.lw → Ins n lo hi a b X p.lw i
  out : ∀ i, p.f ≤ i → i < p.t → ¬ Ins n lo hi a b X (p.hg + 1) i
  lt : p.L = true → 0 < p.f ∧ Ins n lo hi a b X (p.hg + 1) (p.f - 1)
  lf : p.L = false → 0 < p.f → ¬ Ins n lo hi a b X (max p.lw (c0 + 1)) (p.f - 1)
  rt : p.R = true → Ins n lo hi a b X (p.hg + 1) p.t
  rf : p.R = false → ¬ Ins n lo hi a b X (max p.lw (c0 + 1)) p.t
section
variable {n : Nat} {lo hi a b X Y l : Nat → Int} {c c0 : Int} {p : Part}
theorem PartOK.flagL (k : PartOK n lo hi a b X c0 p) {r : Int} (h1 : p.lw < r) (h2 : r ≤ p.hg) : FlagL n lo hi a b X r p.f p.L := by
  refine ⟨fun h => ⟨(k.lt h).1, (k.lt h).2.mono (by omega)⟩, fun h => ?_⟩
  cases e : p.L
  · have := k.cl
    exact absurd (h.2.mono (by omega)) (k.lf e h.1)
  · rfl
theorem PartOK.flagR (k : PartOK n lo hi a b X c0 p) {r : Int} (h1 : p.lw < r) (h2 : r ≤ p.hg) : FlagR n lo hi a b X r p.t p.R := by
  refine ⟨fun h => (k.rt h).mono (by omega), fun h => ?_⟩
  cases e : p.R
  · have := k.cl
    exact absurd (h.mono (by omega)) (k.rf e)
  · rfl
/-- a run of a part that was cut at a rate -/
theorem PartOK.cut (k : PartOK n lo hi a b X c0 p) {r : Int} (h1 : p.lw < r) (h2 : r ≤ p.hg) {f t : Nat} {w : Bool} (hf : p.f ≤ f) (hft : f < t) (ht : t ≤ p.t) (hw : ∀ i, f ≤ i → i < t → (w = true ↔ Ins n lo hi a b X r i))
    (nl : f ≠ p.f → ((!w) = true ↔ Ins n lo hi a b X r (f - 1))) (nr : t ≠ p.t → ((!w) = true ↔ Ins n lo hi a b X r t)) :
    PartOK n lo hi a b X c0 ⟨f, t, if f = p.f then p.L else !w, if t = p.t then p.R else !w, if w = true then r else p.lw, if w = true then p.hg else r - 1⟩ := by
  have q1 := k.cl
  have q2 := k.tn
  cases w
  · have e1 : (if (false : Bool) = true then r else p.lw) = p.lw := rfl
    have e2 : (if (false : Bool) = true then p.hg else r - 1) = r - 1 := rfl
    have e3 : (!false) = true := rfl
    rw [e1, e2, e3]
    refine ⟨hft, (show t ≤ n by omega), q1, (show p.lw ≤ r - 1 by omega), fun i i1 i2 i3 => ?_, fun i i1 i2 => ?_, fun h => ?_, fun h h0 => ?_, fun h => ?_, fun h => ?_⟩
    · exact k.ins i (Nat.le_trans hf i1) (Nat.lt_of_lt_of_le i2 ht) i3
    · show ¬ Ins n lo hi a b X (r - 1 + 1) i
      rw [show r - 1 + 1 = r by omega]
      intro m
      have := (hw i i1 i2).mpr m
      cases this
    · show 0 < f ∧ Ins n lo hi a b X (r - 1 + 1) (f - 1)
      rw [show r - 1 + 1 = r by omega]
      by_cases e : f = p.f
      · have h : (if f = p.f then p.L else true) = true := h
        rw [if_pos e] at h
        rw [e]
        exact ⟨(k.lt h).1, (k.lt h).2.mono (by omega)⟩
      · exact ⟨by omega, (nl e).mp rfl⟩
    · by_cases e : f = p.f
      · have h : (if f = p.f then p.L else true) = false := h
        rw [if_pos e] at h
        show ¬ Ins n lo hi a b X (max p.lw (c0 + 1)) (f - 1)
        rw [e]
        exact k.lf h (by rw [← e]; exact h0)
      · have h : (if f = p.f then p.L else true) = false := h
        rw [if_neg e] at h
        cases h
    · show Ins n lo hi a b X (r - 1 + 1) t
      rw [show r - 1 + 1 = r by omega]
      by_cases e : t = p.t
      · have h : (if t = p.t then p.R else true) = true := h
        rw [if_pos e] at h
        rw [e]
        exact (k.rt h).mono (by omega)
      · exact (nr e).mp rfl
    · by_cases e : t = p.t
      · have h : (if t = p.t then p.R else true) = false := h
        rw [if_pos e] at h
        show ¬ Ins n lo hi a b X (max p.lw (c0 + 1)) t
        rw [e]
        exact k.rf h
      · have h : (if t = p.t then p.R else true) = false := h
        rw [if_neg e] at h
        cases h
  · have e1 : (if (true : Bool) = true then r else p.lw) = r := rfl
    have e2 : (if (true : Bool) = true then p.hg else r - 1) = p.hg := rfl
    have e3 : (!true) = false := rfl
    rw [e1, e2, e3]
    refine ⟨hft, (show t ≤ n by omega), (show c0 ≤ r by omega), h2, fun i i1 i2 _ => (hw i i1 i2).mp rfl, fun i i1 i2 => k.out i (Nat.le_trans hf i1) (Nat.lt_of_lt_of_le i2 ht), fun h => ?_, fun h h0 => ?_, fun h => ?_, fun h => ?_⟩
    · by_cases e : f = p.f
      · have h : (if f = p.f then p.L else false) = true := h
        rw [if_pos e] at h
        show 0 < f ∧ Ins n lo hi a b X (p.hg + 1) (f - 1)
        rw [e]
        exact k.lt h
      · have h : (if f = p.f then p.L else false) = true := h
        rw [if_neg e] at h
        cases h
    · show ¬ Ins n lo hi a b X (max r (c0 + 1)) (f - 1)
      by_cases e : f = p.f
      · have h : (if f = p.f then p.L else false) = false := h
        rw [if_pos e] at h
        rw [e]
        intro m
        exact k.lf h (by rw [← e]; exact h0) (m.mono (by omega))
      · intro m
        have := (nl e).mpr (m.mono (by omega))
        cases this
    · by_cases e : t = p.t
      · have h : (if t = p.t then p.R else false) = true := h
        rw [if_pos e] at h
        show Ins n lo hi a b X (p.hg + 1) t
        rw [e]
        exact k.rt h
      · have h : (if t = p.t then p.R else false) = true := h
        rw [if_neg e] at h
        cases h
    · show ¬ Ins n lo hi a b X (max r (c0 + 1)) t
      by_cases e : t = p.t
      · have h : (if t = p.t then p.R else false) = false := h
        rw [if_pos e] at h
        rw [e]
        intro m
        exact k.rf h (m.mono (by omega))
      · intro m
        have := (nr e).mpr (m.mono (by omega))
        cases this
theorem sum_ent {f : Nat} : ∀ {t : Nat}, f ≤ t → sumF (ent X) t - sumF (ent X) f = X t - X f
  | 0, h => by
    obtain rfl : f = 0 := by omega
    omega
  | t + 1, h => by
    by_cases e : f = t + 1
    · subst e
      omega
    · have := sum_ent (f := f) (t := t) (by omega)
      have e1 : sumF (ent X) (t + 1) = sumF (ent X) t + (X (t + 1) - X t) := rfl
      omega
theorem seg_mono {g h : Nat → Int} {f : Nat} : ∀ {t : Nat}, f ≤ t → (∀ i, f ≤ i → i < t → g i ≤ h i) → sumF g t - sumF g f ≤ sumF h t - sumF h f
  | 0, q, _ => by
    obtain rfl : f = 0 := by omega
    omega
  | t + 1, q, gh => by
    by_cases e : f = t + 1
    · subst e
      omega
    · have h1 := seg_mono (g := g) (h := h) (f := f) (t := t) (by omega) fun i h1 h2 => gh i h1 (by omega)
      have h2 := gh t (by omega) (by omega)
      have e1 : sumF g (t + 1) = sumF g t + g t := rfl
      have e2 : sumF h (t + 1) = sumF h t + h t := rfl
      omega
theorem seg_strict {g h : Nat → Int} {f : Nat} : ∀ {t j : Nat}, f ≤ j → j < t → (∀ i, f ≤ i → i < t → g i ≤ h i) → g j < h j → sumF g t - sumF g f < sumF h t - sumF h f
  | 0, j, _, h, _, _ => absurd h (by omega)
  | t + 1, j, h1, h2, gh, s => by
    have e1 : sumF g (t + 1) = sumF g t + g t := rfl
    have e2 : sumF h (t + 1) = sumF h t + h t := rfl
    by_cases e : j = t
    · subst e
      have := seg_mono (g := g) (h := h) (f := f) (t := j) (by omega) fun i h1 h2 => gh i h1 (by omega)
      omega
    · have := seg_strict (g := g) (h := h) (f := f) (t := t) (j := j) h1 (by omega) (fun i h1 h2 => gh i h1 (by omega)) s
      have := gh t (by omega) (by omega)
      omega
/-- what the entries of a part add up to at most, where it is better inside -/
def needF (lo hi : Nat → Int) (p : Part) : Int := (if p.R = true then hi p.t else lo p.t) - (if p.L = true then lo p.f else hi p.f)
theorem PartOK.need_le (k : PartOK n lo hi a b X c0 p) (r : RowS n lo hi a b X) (tot : lo n = hi n) : needF lo hi p ≤ X p.t - X p.f := by
  have h1 := r.low p.t k.tn
  have h2 := r.high p.f (by have := k.ft; have := k.tn; omega)
  have ft := k.ft
  have tn := k.tn
  have e1 : p.R = true → X p.t = hi p.t := fun h => by
    have m := k.rt h
    have nm := k.out (p.t - 1) (by omega) (by omega)
    have e : p.t = p.t - 1 + 1 := by omega
    have := ins_enter r nm (by rw [← e]; exact m)
    rw [← e] at this
    exact this
  have e2 : p.L = true → X p.f = lo p.f := fun h => by
    obtain ⟨h0, m⟩ := k.lt h
    have nm := k.out p.f (Nat.le_refl _) ft
    have e : p.f = p.f - 1 + 1 := by omega
    have := ins_exit r tot m (by rw [← e]; exact nm)
    rw [← e] at this
    exact this
  unfold needF
  cases hR : p.R <;> cases hL : p.L <;> simp only [Bool.false_eq_true, if_false, if_true]
  · omega
  · have := e2 hL
    omega
  · have := e1 hR
    omega
  · have := e1 hR
    have := e2 hL
    omega
/-- a part that is inside is so by something within, or by a neighbour -/
theorem part_why {f t : Nat} (ft : f < t) (m : Ins n lo hi a b X c f) (h1 : ∀ i, f ≤ i → i < t → ¬ (clampF a b i c < ent X i)) (h2 : 0 < f → Ins n lo hi a b X c (f - 1) → ¬ lo f < X f) (h3 : Ins n lo hi a b X c t → ¬ X t < hi t) : False := by
  have key : ∀ j, Ins n lo hi a b X c j → f ≤ j → j < t → False := fun j mj => by
    induction mj with
    | @src i q g => exact fun e1 e2 => h1 i e1 e2 g
    | @right i m1 q g ih =>
      intro e1 e2
      by_cases e : f ≤ i
      · exact ih e (by omega)
      · have ef : f = i + 1 := by omega
        exact h2 (by omega) (by rw [show f - 1 = i by omega]; exact m1) (by rw [ef]; exact g)
    | @left i m1 g ih =>
      intro e1 e2
      by_cases e : i + 1 = t
      · exact h3 (by rw [← e]; exact m1) (by rw [← e]; exact g)
      · exact ih (by omega) (by omega)
  exact key f m (Nat.le_refl _) ft
theorem PartOK.need_gt (k : PartOK n lo hi a b X c0 p) (r : BestS n lo hi a b X) (tot : lo n = hi n) (h00 : hi 0 = 0) (hc : c0 < p.lw) :
    sumF (fun i => clampF a b i p.lw) p.t - sumF (fun i => clampF a b i p.lw) p.f < needF lo hi p := by
  have ft := k.ft
  have tn := k.tn
  have lh := k.lh
  have b1 := r.row.low p.t tn
  have b2 := r.row.high p.t tn
  have b3 := r.row.low p.f (by omega)
  have b4 := r.row.high p.f (by omega)
  have ge : ∀ i, p.f ≤ i → i < p.t → clampF a b i p.lw ≤ ent X i := fun i h1 h2 => r.ins_ge (k.ins i h1 h2 hc)
  have s1 := seg_mono (g := fun i => clampF a b i p.lw) (h := ent X) (f := p.f) (t := p.t) (by omega) ge
  rw [sum_ent (by omega)] at s1
  have mx : max p.lw (c0 + 1) = p.lw := by omega
  have rf : p.R = false → X p.t = lo p.t := fun h => by
    have nm := k.rf h
    rw [mx] at nm
    have e : p.t = p.t - 1 + 1 := by omega
    have := ins_exit r.row tot (k.ins (p.t - 1) (by omega) (by omega) hc) (by rw [← e]; exact nm)
    rw [← e] at this
    exact this
  have lf : p.L = false → X p.f = hi p.f := fun h => by
    rcases Nat.eq_zero_or_pos p.f with z | z
    · rw [z, h00, r.row.zero]
    · have nm := k.lf h z
      rw [mx] at nm
      have e : p.f = p.f - 1 + 1 := by omega
      have := ins_enter r.row nm (by rw [← e]; exact k.ins p.f (Nat.le_refl _) ft hc)
      rw [← e] at this
      exact this
  by_cases w : ∃ i, p.f ≤ i ∧ i < p.t ∧ clampF a b i p.lw < ent X i
  · obtain ⟨i, i1, i2, i3⟩ := w
    have s2 := seg_strict (g := fun i => clampF a b i p.lw) (h := ent X) i1 i2 ge i3
    rw [sum_ent (by omega)] at s2
    unfold needF
    cases hR : p.R <;> cases hL : p.L <;> simp only [Bool.false_eq_true, if_false, if_true]
    · have := rf hR
      have := lf hL
      omega
    · have := rf hR
      omega
    · have := lf hL
      omega
    · omega
  · have why := fun h2 h3 => part_why (c := p.lw) ft (k.ins p.f (Nat.le_refl _) ft hc) (fun i h1 h2 h3 => w ⟨i, h1, h2, h3⟩) h2 h3
    unfold needF
    cases hR : p.R <;> cases hL : p.L <;> simp only [Bool.false_eq_true, if_false, if_true]
    · exact (why (fun z m => absurd m (by have := k.lf hL z; rw [mx] at this; exact this)) (fun m => absurd m (by have := k.rf hR; rw [mx] at this; exact this))).elim
    · have := rf hR
      by_cases e : lo p.f < X p.f
      · omega
      · exact (why (fun _ _ => e) (fun m => absurd m (by have := k.rf hR; rw [mx] at this; exact this))).elim
    · have := lf hL
      by_cases e : X p.t < hi p.t
      · omega
      · exact (why (fun z m => absurd m (by have := k.lf hL z; rw [mx] at this; exact this)) (fun _ => e)).elim
    · by_cases e : lo p.f < X p.f
      · omega
      · by_cases e2 : X p.t < hi p.t
        · omega
        · exact (why (fun _ _ => e) (fun _ => e2)).elim
/-- a part with one rate left tells the level -/
theorem PartOK.lev (k : PartOK n lo hi a b X c0 p) (e : p.lw = p.hg) {i : Nat} (h1 : p.f ≤ i) (h2 : i < p.t) : c0 ≤ p.lw ∧ (c0 < p.lw → Ins n lo hi a b X p.lw i) ∧ ¬ Ins n lo hi a b X (p.lw + 1) i :=
  ⟨k.cl, k.ins i h1 h2, by rw [e]; exact k.out i h1 h2⟩
theorem part_start (r : RowS n lo hi a b X) {c1 : Int} (hn : 0 < n) (h : c0 ≤ c1) (hb : ∀ i, i < n → b i ≤ c1 + 1) : PartOK n lo hi a b X c0 ⟨0, n, false, false, c0, c1⟩ :=
  ⟨hn, Nat.le_refl _, Int.le_refl _, h, fun _ _ _ z => absurd z (Int.lt_irrefl _), fun _ _ _ => ins_top r hb, fun z => Bool.noConfusion z, fun _ z => absurd z (by show ¬ 0 < 0; omega), fun z => Bool.noConfusion z, fun _ m => absurd m.lt (Nat.lt_irrefl n)⟩
theorem clamp_step {x y c a b : Int} (h : min b (max a c) ≤ x) (hx : x ≤ b) (hy : y ≤ b) (hy2 : a ≤ y) (hx2 : a ≤ x) : y - x ≤ max 0 (y - c) - max 0 (x - c) := by omega
theorem clamp_stay {x y c a b : Int} (h : x ≤ min b (max a c)) (hx : x ≤ b) (hy : y ≤ b) (hy2 : a ≤ y) (hx2 : a ≤ x) : 0 ≤ max 0 (y - c) - max 0 (x - c) := by omega
theorem above_aux (r : BestS n lo hi a b X) (s : RowS n lo hi a b Y) (tot : lo n = hi n) (h00 : hi 0 = 0) : ∀ t, t ≤ n →
    (∀ i, i + 1 = t → (Ins n lo hi a b X c i → Y t - X t ≤ sumF (fun i => max 0 (ent Y i - c)) t - sumF (fun i => max 0 (ent X i - c)) t) ∧ (¬ Ins n lo hi a b X c i → 0 ≤ sumF (fun i => max 0 (ent Y i - c)) t - sumF (fun i => max 0 (ent X i - c)) t))
  | 0, _, i, e => absurd e (by omega)
  | t + 1, h, i, e => by
    obtain rfl : i = t := by omega
    have e1 : sumF (fun i => max 0 (ent Y i - c)) (i + 1) = sumF (fun i => max 0 (ent Y i - c)) i + max 0 (ent Y i - c) := rfl
    have e2 : sumF (fun i => max 0 (ent X i - c)) (i + 1) = sumF (fun i => max 0 (ent X i - c)) i + max 0 (ent X i - c) := rfl
    have x1 := r.row.ent_least (i := i) (by omega)
    have x2 := r.row.ent_most (i := i) (by omega)
    have y1 := s.ent_least (i := i) (by omega)
    have y2 := s.ent_most (i := i) (by omega)
    -- what stands before
    have bef : (Ins n lo hi a b X c i → Y i - X i ≤ sumF (fun i => max 0 (ent Y i - c)) i - sumF (fun i => max 0 (ent X i - c)) i) ∧ (¬ Ins n lo hi a b X c i → 0 ≤ sumF (fun i => max 0 (ent Y i - c)) i - sumF (fun i => max 0 (ent X i - c)) i) := by
      rcases Nat.eq_zero_or_pos i with z | z
      · subst z
        refine ⟨fun _ => ?_, fun _ => ?_⟩
        · rw [s.zero, r.row.zero]
          exact Int.le_refl _
        · exact Int.le_refl _
      · obtain ⟨h1, h2⟩ := above_aux r s tot h00 i (by omega) (i - 1) (by omega)
        have ei : i = i - 1 + 1 := by omega
        refine ⟨fun m => ?_, fun m => ?_⟩
        · by_cases m2 : Ins n lo hi a b X c (i - 1)
          · exact h1 m2
          · have := h2 m2
            have sl := ins_enter r.row m2 (by rw [← ei]; exact m)
            rw [← ei] at sl
            have := s.high i (by omega)
            omega
        · by_cases m2 : Ins n lo hi a b X c (i - 1)
          · have := h1 m2
            have sl := ins_exit r.row tot m2 (by rw [← ei]; exact m)
            rw [← ei] at sl
            have := s.low i (by omega)
            omega
          · exact h2 m2
    rw [e1, e2]
    have ex : ent X i = X (i + 1) - X i := rfl
    have ey : ent Y i = Y (i + 1) - Y i := rfl
    refine ⟨fun m => ?_, fun m => ?_⟩
    · have g : clampF a b i c ≤ ent X i := r.ins_ge m
      have := clamp_step (x := ent X i) (y := ent Y i) g x2 y2 y1 x1
      have := bef.1 m
      omega
    · have g : ent X i ≤ clampF a b i c := not_ins (by omega) m
      have := clamp_stay (x := ent X i) (y := ent Y i) g x2 y2 y1 x1
      have := bef.2 m
      omega
theorem BestS.above (r : BestS n lo hi a b X) (s : RowS n lo hi a b Y) (tot : lo n = hi n) (h00 : hi 0 = 0) (c : Int) : sumF (fun i => max 0 (ent X i - c)) n ≤ sumF (fun i => max 0 (ent Y i - c)) n := by
  rcases Nat.eq_zero_or_pos n with z | z
  · subst z
    exact Int.le_refl _
  · obtain ⟨h1, h2⟩ := above_aux r s tot h00 (c := c) n (Nat.le_refl _) (n - 1) (by omega)
    by_cases m : Ins n lo hi a b X c (n - 1)
    · have := h1 m
      have := r.row.low n (Nat.le_refl _)
      have := r.row.high n (Nat.le_refl _)
      have := s.low n (Nat.le_refl _)
      have := s.high n (Nat.le_refl _)
      omega
    · have := h2 m
      omega
end
set_option maxHeartbeats 4000000
structure Run where
  f : Nat
  t : Nat
  v : V
def itemV (xs : List V) (i : Nat) : V := xs.getD i .non
/-- the runs that are told by the i-th time, and where the next one begins -/
def runsTo (xs : List V) : Nat → List Run × Nat
  | 0 => ([], 0)
  | j + 1 => if j + 1 = xs.length ∨ itemV xs (j + 1) ≠ itemV xs (runsTo xs j).2 then ((runsTo xs j).1 ++ [⟨(runsTo xs j).2, j + 1, itemV xs (runsTo xs j).2⟩], j + 1) else runsTo xs j
def runsV (xs : List V) : List Run := (runsTo xs xs.length).1
def RunsLen : List Run → Nat
  | [] => 0
  | r :: rs => (r.t - r.f) + RunsLen rs
theorem runsLen_app (as bs : List Run) : RunsLen (as ++ bs) = RunsLen as + RunsLen bs := by
  induction as with
  | nil => simp [RunsLen]
  | cons a as ih => simp only [List.cons_append, RunsLen, ih]; omega
structure RunIs (xs : List V) (r : Run) : Prop where
  ft : r.f < r.t
  tn : r.t ≤ xs.length
  const : ∀ i, r.f ≤ i → i < r.t → itemV xs i = r.v
  ml : r.f ≠ 0 → itemV xs (r.f - 1) ≠ r.v
  mr : r.t ≠ xs.length → itemV xs r.t ≠ r.v
structure RunsInv (xs : List V) (j : Nat) (s : List Run × Nat) : Prop where
  le : s.2 ≤ j
  cur : j < xs.length → ∀ i, s.2 ≤ i → i ≤ j → itemV xs i = itemV xs s.2
  fin : j = xs.length → s.2 = xs.length
  runs : ∀ r ∈ s.1, RunIs xs r
  ml : s.2 ≠ 0 → s.2 < xs.length → itemV xs (s.2 - 1) ≠ itemV xs s.2
  len : RunsLen s.1 = s.2
  cov : ∀ i, i < s.2 → ∃ r ∈ s.1, r.f ≤ i ∧ i < r.t
  /-- each run begins where the one before ends -/
  chain : ∀ (k : Nat) (r : Run), s.1[k]? = some r → r.f = (if k = 0 then 0 else (s.1.getD (k - 1) ⟨0, 0, .non⟩).t)
  last : s.2 = (if s.1.length = 0 then 0 else (s.1.getD (s.1.length - 1) ⟨0, 0, .non⟩).t)
theorem runsTo_inv (xs : List V) : ∀ j, j ≤ xs.length → RunsInv xs j (runsTo xs j)
  | 0, h => ⟨Nat.le_refl _, fun _ i h1 h2 => by rw [show i = 0 by omega]; rfl, fun e => e, (fun _ m => nomatch m), fun z => absurd rfl z, rfl, fun i h => absurd h (by show ¬ i < 0; omega), fun k r h => (by cases h), rfl⟩
  | j + 1, h => by
    have v := runsTo_inv xs j (by omega)
    have e0 : runsTo xs (j + 1) = if j + 1 = xs.length ∨ itemV xs (j + 1) ≠ itemV xs (runsTo xs j).2 then ((runsTo xs j).1 ++ [⟨(runsTo xs j).2, j + 1, itemV xs (runsTo xs j).2⟩], j + 1) else runsTo xs j := rfl
    rw [e0]
    generalize runsTo xs j = s at v
    obtain ⟨rs, f⟩ := s
    obtain ⟨v1, v2, v3, v4, v5, v6, v7, v8, v9⟩ := v
    dsimp only at v1 v2 v3 v4 v5 v6 v7 v8 v9 ⊢
    by_cases c : j + 1 = xs.length ∨ itemV xs (j + 1) ≠ itemV xs f
    · rw [if_pos c]
      refine ⟨Nat.le_refl _, fun hl i h1 h2 => ?_, fun e => e, fun r hr => ?_, fun _ hl => ?_, ?_, fun i hi => ?_, fun k r hk => ?_, ?_⟩
      · obtain rfl : i = j + 1 := Nat.le_antisymm h2 h1
        rfl
      · rcases List.mem_append.mp hr with hr | hr
        · exact v4 r hr
        · rw [List.mem_singleton] at hr
          subst hr
          refine ⟨(show f < j + 1 by omega), h, fun i h1 h2 => v2 (by omega) i h1 (by have h2 : i < j + 1 := h2; omega), fun h0 => v5 h0 (by omega), fun hne => ?_⟩
          rcases c with c | c
          · exact absurd c hne
          · exact c
      · rcases c with c | c
        · exact absurd c (by have hl : j + 1 < xs.length := hl; omega)
        · show itemV xs (j + 1 - 1) ≠ itemV xs (j + 1)
          rw [show j + 1 - 1 = j by omega, v2 (by omega) j v1 (Nat.le_refl _)]
          exact Ne.symm c
      · rw [runsLen_app, v6]
        show f + ((j + 1 - f) + 0) = j + 1
        omega
      · by_cases e : i < f
        · obtain ⟨r, hr, q⟩ := v7 i e
          exact ⟨r, List.mem_append_left _ hr, q⟩
        · exact ⟨⟨f, j + 1, itemV xs f⟩, List.mem_append_right _ List.mem_cons_self, (show f ≤ i by omega), hi⟩
      · by_cases e : k < rs.length
        · rw [List.getElem?_append_left e] at hk
          have := v8 k r hk
          rw [this]
          by_cases e0 : k = 0
          · rw [if_pos e0, if_pos e0]
          · rw [if_neg e0, if_neg e0, List.getD_eq_getElem?_getD, List.getD_eq_getElem?_getD, List.getElem?_append_left (by omega)]
        · have hl := (List.getElem?_eq_some_iff.mp hk).1
          rw [List.length_append, List.length_singleton] at hl
          obtain rfl : k = rs.length := by omega
          rw [List.getElem?_concat_length] at hk
          obtain rfl := Option.some.inj hk
          show f = _
          rw [v9]
          by_cases e0 : rs.length = 0
          · rw [if_pos e0, if_pos e0]
          · rw [if_neg e0, if_neg e0, List.getD_eq_getElem?_getD, List.getD_eq_getElem?_getD, List.getElem?_append_left (by omega)]
      · rw [List.length_append, List.length_singleton, if_neg (by omega), Nat.add_sub_cancel, List.getD_eq_getElem?_getD, List.getElem?_concat_length]
        rfl
    · rw [if_neg c]
      have c' : j + 1 ≠ xs.length ∧ itemV xs (j + 1) = itemV xs f := ⟨fun z => c (.inl z), Classical.not_not.mp fun z => c (.inr z)⟩
      refine ⟨by show f ≤ j + 1; omega, fun hl i h1 h2 => ?_, fun e => absurd e c'.1, v4, v5, v6, v7, v8, v9⟩
      by_cases e : i = j + 1
      · rw [e]
        exact c'.2
      · exact v2 (by omega) i h1 (by omega)
theorem runsV_is (xs : List V) : ∀ r ∈ runsV xs, RunIs xs r := (runsTo_inv xs xs.length (Nat.le_refl _)).runs
theorem runsV_len (xs : List V) : RunsLen (runsV xs) = xs.length := by
  have v := runsTo_inv xs xs.length (Nat.le_refl _)
  exact v.len.trans (v.fin rfl)
theorem runsV_cov (xs : List V) {i : Nat} (h : i < xs.length) : ∃ r ∈ runsV xs, r.f ≤ i ∧ i < r.t := by
  have v := runsTo_inv xs xs.length (Nat.le_refl _)
  exact v.cov i (by rw [v.fin rfl]; exact h)
theorem runs_count {xs : List V} : ∀ {rs : List Run}, (∀ r ∈ rs, RunIs xs r) → rs.length ≤ RunsLen rs
  | [], _ => Nat.le_refl _
  | r :: rs, h => by
    have h1 := runs_count (rs := rs) fun q hq => h q (List.mem_cons_of_mem _ hq)
    have h2 := (h r List.mem_cons_self).ft
    simp only [RunsLen, List.length_cons]
    omega
def TL (H : Hp) (ts : List Addr) (vs : List (List V)) : Prop := ts.length = vs.length ∧ ∀ (i : Nat) (t : Addr), ts[i]? = some t → H t = some (.tup (vs.getD i []))
theorem TL.nil (H : Hp) : TL H [] [] := ⟨rfl, fun _ _ h => by cases h⟩
theorem TL.put {H : Hp} {ts : List Addr} {vs : List (List V)} {c : Addr} {xs : List V} {o : HO} (t : TL H ts vs) (hc : H c = some (.lst xs)) : TL (upd H c o) ts vs := ⟨t.1, fun i a h => by
  have h1 := t.2 i a h
  rw [upd_ne (fun e => by rw [e, hc] at h1; cases h1)]
  exact h1⟩
theorem TL.more {H : Hp} {ts : List Addr} {vs : List (List V)} {c : Addr} {o : HO} (t : TL H ts vs) (hc : H c = none) : TL (upd H c o) ts vs := ⟨t.1, fun i a h => by
  have h1 := t.2 i a h
  rw [upd_ne (fun e => by rw [e, hc] at h1; cases h1)]
  exact h1⟩
theorem TL.fr {H H' : Hp} {ts : List Addr} {vs : List (List V)} (t : TL H ts vs) (f : ∀ a o, H a = some o → H' a = some o) : TL H' ts vs := ⟨t.1, fun i a h => f _ _ (t.2 i a h)⟩
theorem TL.add {H : Hp} {ts : List Addr} {vs : List (List V)} {a : Addr} {v : List V} (t : TL H ts vs) (h : H a = some (.tup v)) : TL H (ts ++ [a]) (vs ++ [v]) := by
  refine ⟨by rw [List.length_append, List.length_append, t.1] <;> rfl, fun i b hb => ?_⟩
  by_cases e : i < ts.length
  · rw [List.getElem?_append_left e] at hb
    have := t.2 i b hb
    rw [List.getD_eq_getElem?_getD, List.getElem?_append_left (by rw [← t.1]; exact e), ← List.getD_eq_getElem?_getD]
    exact this
  · have hl := (List.getElem?_eq_some_iff.mp hb).1
    rw [List.length_append, List.length_singleton] at hl
    obtain rfl : i = ts.length := by omega
    rw [List.getElem?_concat_length] at hb
    obtain rfl := Option.some.inj hb
    rw [List.getD_eq_getElem?_getD, t.1, List.getElem?_concat_length]
    exact h
set_option maxHeartbeats 4000000
def sumP (g : Int × Int → Int) (l : List (Int × Int)) : Int := (l.map g).sum
theorem sumP_perm {g : Int × Int → Int} {l m : List (Int × Int)} (h : l.Perm m) : sumP g l = sumP g m := by
  induction h with
  | nil => rfl
  | cons x _ ih => exact congrArg (g x + ·) ih
  | swap x y l =>
    show g y + (g x + _) = g x + (g y + _)
    omega
  | trans _ _ h1 h2 => exact h1.trans h2
theorem sumP_app {g : Int × Int → Int} {l m : List (Int × Int)} : sumP g (l ++ m) = sumP g l + sumP g m := by
  unfold sumP
  rw [List.map_append, List.sum_append]
def pairAt (l : List (Int × Int)) (i : Nat) : Int × Int := l.getD i (0, 0)
theorem sumP_take {g : Int × Int → Int} {l : List (Int × Int)} : ∀ {k : Nat}, k ≤ l.length → sumF (fun j => g (pairAt l j)) k = sumP g (l.take k)
  | 0, _ => rfl
  | k + 1, h => by
    have h1 := sumP_take (g := g) (l := l) (k := k) (by omega)
    show sumF (fun j => g (pairAt l j)) k + g (pairAt l k) = _
    rw [h1, List.take_add_one, sumP_app, List.getElem?_eq_getElem (by omega)]
    unfold pairAt
    rw [List.getD_eq_getElem?_getD, List.getElem?_eq_getElem (by omega)]
    show _ = _ + (g _ + 0)
    rw [Int.add_zero]
    rfl
theorem sumP_all {g : Int × Int → Int} {l : List (Int × Int)} : sumF (fun j => g (pairAt l j)) l.length = sumP g l := by
  rw [sumP_take (Nat.le_refl _), List.take_length]
/-- the sum up to the k-th bound, told by a line -/
def lineS (l : List (Int × Int)) (k : Nat) (x : Int) : Int := sumF (fun j => (pairAt l j).2 * (x - (pairAt l j).1)) k
def lineG (l : List (Int × Int)) (k : Nat) : Int := sumF (fun j => (pairAt l j).2) k
theorem line_move {l : List (Int × Int)} (x y : Int) : ∀ k, lineS l k y = lineS l k x + lineG l k * (y - x)
  | 0 => by
    show (0 : Int) = 0 + 0 * (y - x)
    omega
  | k + 1 => by
    have h := line_move (l := l) x y k
    have e1 : lineS l (k + 1) y = lineS l k y + (pairAt l k).2 * (y - (pairAt l k).1) := rfl
    have e2 : lineS l (k + 1) x = lineS l k x + (pairAt l k).2 * (x - (pairAt l k).1) := rfl
    have e3 : lineG l (k + 1) = lineG l k + (pairAt l k).2 := rfl
    have e4 : (pairAt l k).2 * (y - (pairAt l k).1) = (pairAt l k).2 * (x - (pairAt l k).1) + (pairAt l k).2 * (y - x) := by
      rw [← Int.mul_add]
      congr 1
      omega
    rw [e1, e2, e3, h, e4, Int.add_mul]
    omega
theorem line_step {l : List (Int × Int)} (k : Nat) : lineS l (k + 1) (pairAt l k).1 = lineS l k (pairAt l k).1 := by
  have e1 : lineS l (k + 1) (pairAt l k).1 = lineS l k (pairAt l k).1 + (pairAt l k).2 * ((pairAt l k).1 - (pairAt l k).1) := rfl
  rw [e1, Int.sub_self, Int.mul_zero, Int.add_zero]
def hinge (x : Int) (p : Int × Int) : Int := p.2 * max 0 (x - p.1)
/-- between two bounds the line is the sum -/
theorem line_hinge {l : List (Int × Int)} {x : Int} {k : Nat} (hk : k ≤ l.length) (h1 : ∀ j, j < k → (pairAt l j).1 ≤ x) (h2 : ∀ j, k ≤ j → j < l.length → x ≤ (pairAt l j).1) : sumP (hinge x) l = lineS l k x := by
  rw [← sumP_all]
  have key : ∀ m, k + m ≤ l.length → sumF (fun j => hinge x (pairAt l j)) (k + m) = sumF (fun j => hinge x (pairAt l j)) k := fun m => by
    induction m with
    | zero => intro _; rfl
    | succ m ih =>
      intro hm
      have e : sumF (fun j => hinge x (pairAt l j)) (k + (m + 1)) = sumF (fun j => hinge x (pairAt l j)) (k + m) + hinge x (pairAt l (k + m)) := rfl
      rw [e, ih (by omega)]
      unfold hinge
      have := h2 (k + m) (by omega) (by omega)
      rw [show max 0 (x - (pairAt l (k + m)).1) = 0 by omega, Int.mul_zero, Int.add_zero]
  have e := key (l.length - k) (by omega)
  rw [show k + (l.length - k) = l.length by omega] at e
  rw [e]
  refine sumF_congr fun j hj => ?_
  unfold hinge
  rw [show max 0 (x - (pairAt l j).1) = x - (pairAt l j).1 by have := h1 j hj; omega]
/-- the bounds of a part -/
def turnsOf (a b : Nat → Int) (f m : Nat) : List (Int × Int) := (List.range m).map (fun i => (a (f + i), 1)) ++ (List.range m).map fun i => (b (f + i), -1)
theorem sum_range_map {g : Int × Int → Int} {h : Nat → Int × Int} : ∀ m, sumP g ((List.range m).map h) = sumF (fun i => g (h i)) m
  | 0 => rfl
  | m + 1 => by
    rw [List.range_succ, List.map_append, sumP_app, sum_range_map m]
    show _ + (g (h m) + 0) = sumF (fun i => g (h i)) m + g (h m)
    omega
theorem sumF_shift {g : Nat → Int} (f : Nat) : ∀ m, sumF (fun i => g (f + i)) m = sumF g (f + m) - sumF g f
  | 0 => by show (0 : Int) = _; rw [Nat.add_zero]; omega
  | m + 1 => by
    have h := sumF_shift (g := g) f m
    show sumF (fun i => g (f + i)) m + g (f + m) = sumF g (f + m) + g (f + m) - sumF g f
    omega
theorem clamp_sum {a b : Nat → Int} {f m : Nat} (ab : ∀ i, f ≤ i → i < f + m → a i ≤ b i) (x : Int) : sumF (fun i => clampF a b i x) (f + m) - sumF (fun i => clampF a b i x) f = (sumF a (f + m) - sumF a f) + sumP (hinge x) (turnsOf a b f m) := by
  rw [← sumF_shift, ← sumF_shift, turnsOf, sumP_app, sum_range_map, sum_range_map]
  have key : ∀ k, k ≤ m → sumF (fun i => clampF a b (f + i) x) k = sumF (fun i => a (f + i)) k + (sumF (fun i => hinge x (a (f + i), 1)) k + sumF (fun i => hinge x (b (f + i), -1)) k) := fun k => by
    induction k with
    | zero => intro _; rfl
    | succ k ih =>
      intro hk
      have h1 := ih (by omega)
      have e1 : sumF (fun i => clampF a b (f + i) x) (k + 1) = sumF (fun i => clampF a b (f + i) x) k + clampF a b (f + k) x := rfl
      have e2 : sumF (fun i => a (f + i)) (k + 1) = sumF (fun i => a (f + i)) k + a (f + k) := rfl
      have e3 : sumF (fun i => hinge x (a (f + i), 1)) (k + 1) = sumF (fun i => hinge x (a (f + i), 1)) k + 1 * max 0 (x - a (f + k)) := rfl
      have e4 : sumF (fun i => hinge x (b (f + i), -1)) (k + 1) = sumF (fun i => hinge x (b (f + i), -1)) k + (-1) * max 0 (x - b (f + k)) := rfl
      have := ab (f + k) (by omega) (by omega)
      have e5 : clampF a b (f + k) x = min (b (f + k)) (max (a (f + k)) x) := rfl
      omega
  exact key m (Nat.le_refl _)
/-- where the sums pass what is needed -/
theorem even_found {a b : Nat → Int} {f m : Nat} (ab : ∀ i, f ≤ i → i < f + m → a i ≤ b i) {l : List (Int × Int)} (hp : l.Perm (turnsOf a b f m)) (hs : ∀ i j, i ≤ j → j < l.length → (pairAt l i).1 ≤ (pairAt l j).1) {k : Nat} (hk : k < l.length) {ra need : Int}
    (h1 : ∀ j, j < k → (pairAt l j).1 ≤ ra) (h2 : ra ≤ (pairAt l k).1) (lt : (sumF a (f + m) - sumF a f) + lineS l k ra < need)
    (ge : need ≤ (sumF a (f + m) - sumF a f) + lineS l k ra + lineG l k * ((pairAt l k).1 - ra)) :
    0 < lineG l k ∧ ra ≤ ra + (need - ((sumF a (f + m) - sumF a f) + lineS l k ra) - 1) / lineG l k ∧
    need ≤ sumF (fun i => clampF a b i (ra + (need - ((sumF a (f + m) - sumF a f) + lineS l k ra) - 1) / lineG l k + 1)) (f + m) - sumF (fun i => clampF a b i (ra + (need - ((sumF a (f + m) - sumF a f) + lineS l k ra) - 1) / lineG l k + 1)) f := by
  generalize eS : sumF a (f + m) - sumF a f = S at lt ge ⊢
  have hw : 0 ≤ (pairAt l k).1 - ra := by omega
  have gp : 0 < lineG l k := by
    rcases Int.lt_or_le 0 (lineG l k) with h | h
    · exact h
    · have := Int.mul_nonpos_of_nonpos_of_nonneg h hw
      omega
  generalize hA : need - (S + lineS l k ra) - 1 = A
  have hA0 : 0 ≤ A := by omega
  have hq0 : 0 ≤ A / lineG l k := Int.ediv_nonneg hA0 (Int.le_of_lt gp)
  have hq1 : lineG l k * (A / lineG l k) ≤ A := Int.mul_ediv_self_le (Int.ne_of_gt gp)
  have hq2 : A < lineG l k * (A / lineG l k + 1) := by
    have := Int.lt_mul_ediv_self_add (x := A) (k := lineG l k) gp
    rw [Int.mul_add, Int.mul_one]
    omega
  have hqw : A / lineG l k < (pairAt l k).1 - ra := by
    rcases Int.lt_or_le (A / lineG l k) ((pairAt l k).1 - ra) with h | h
    · exact h
    · have := Int.mul_le_mul_of_nonneg_left h (Int.le_of_lt gp)
      omega
  refine ⟨gp, by omega, ?_⟩
  rw [clamp_sum ab, eS, ← sumP_perm hp, line_hinge (k := k) (Nat.le_of_lt hk) (fun j hj => by have := h1 j hj; omega) (fun j hj hl => by have := hs k j hj hl; omega), line_move ra _ k]
  rw [show ra + A / lineG l k + 1 - ra = A / lineG l k + 1 by omega]
  omega
/-- the sums pass it, where the greatest one does -/
theorem even_never {a b : Nat → Int} {f m : Nat} (ab : ∀ i, f ≤ i → i < f + m → a i ≤ b i) {l : List (Int × Int)} (hp : l.Perm (turnsOf a b f m)) {ra need : Int} (h1 : ∀ j, j < l.length → (pairAt l j).1 ≤ ra)
    (lt : (sumF a (f + m) - sumF a f) + lineS l l.length ra < need) (hn : need ≤ sumF b (f + m) - sumF b f) : False := by
  have e := clamp_sum ab ra
  rw [← sumP_perm hp, line_hinge (Nat.le_refl _) h1 (fun j h2 h3 => absurd h3 (by omega))] at e
  have mem : ∀ p, p ∈ turnsOf a b f m → p.1 ≤ ra := fun p hp' => by
    have := hp.symm.subset hp'
    obtain ⟨j, hj⟩ := List.mem_iff_getElem?.mp this
    have hl := (List.getElem?_eq_some_iff.mp hj).1
    have h2 := h1 j hl
    unfold pairAt at h2
    rw [List.getD_eq_getElem?_getD, hj] at h2
    exact h2
  have cb : sumF (fun i => clampF a b i ra) (f + m) - sumF (fun i => clampF a b i ra) f = sumF b (f + m) - sumF b f := by
    rw [← sumF_shift, ← sumF_shift]
    refine sumF_congr fun i hi => ?_
    have hb := mem (b (f + i), -1) (List.mem_append_right _ (List.mem_map.mpr ⟨i, List.mem_range.mpr hi, rfl⟩))
    have := ab (f + i) (by omega) (by omega)
    have hb : b (f + i) ≤ ra := hb
    unfold clampF
    omega
  omega
set_option maxHeartbeats 4000000
def wOf : V → Bool
  | .bl b => b
  | _ => false
def newPart (p : Part) (rate : Int) (r : Run) : Part :=
  ⟨p.f + r.f, p.f + r.t, if r.f = 0 then p.L else !wOf r.v, if p.f + r.t = p.t then p.R else !wOf r.v, if wOf r.v = true then rate else p.lw, if wOf r.v = true then p.hg else rate - 1⟩
def pm (p : Part) : Nat := 2 * (p.t - p.f) * (p.hg - p.lw).toNat + 1
def PM : List Part → Nat
  | [] => 0
  | p :: ps => pm p + PM ps
theorem PM_app (ps qs : List Part) : PM (ps ++ qs) = PM ps + PM qs := by
  induction ps with
  | nil => simp [PM]
  | cons p ps ih => simp only [List.cons_append, PM, ih]; omega
theorem pm_runs {p : Part} {rate : Int} (h1 : p.lw < rate) (h2 : rate ≤ p.hg) {v : Nat} (hv : (p.hg - p.lw).toNat = v + 1) : ∀ rs : List Run, PM (rs.map (newPart p rate)) ≤ 2 * RunsLen rs * v + rs.length
  | [] => Nat.zero_le _
  | r :: rs => by
    have ih := pm_runs h1 h2 hv rs
    have e : PM ((r :: rs).map (newPart p rate)) = pm (newPart p rate r) + PM (rs.map (newPart p rate)) := rfl
    have e2 : RunsLen (r :: rs) = (r.t - r.f) + RunsLen rs := rfl
    have h3 : pm (newPart p rate r) ≤ 2 * (r.t - r.f) * v + 1 := by
      unfold pm newPart
      show 2 * (p.f + r.t - (p.f + r.f)) * ((if wOf r.v = true then p.hg else rate - 1) - (if wOf r.v = true then rate else p.lw)).toNat + 1 ≤ _
      rw [Nat.add_sub_add_left]
      have : ((if wOf r.v = true then p.hg else rate - 1) - (if wOf r.v = true then rate else p.lw)).toNat ≤ v := by
        cases wOf r.v
        · simp only [Bool.false_eq_true, if_false]
          omega
        · simp only [if_true]
          omega
      have := Nat.mul_le_mul_left (2 * (r.t - r.f)) this
      omega
    rw [e, e2, List.length_cons, Nat.mul_add, Nat.add_mul]
    omega
theorem pm_cut {p : Part} {rate : Int} (h1 : p.lw < rate) (h2 : rate ≤ p.hg) {rs : List Run} (hf : p.f < p.t) (hl : RunsLen rs = p.t - p.f) (hc : rs.length ≤ RunsLen rs) : PM (rs.map (newPart p rate)) < pm p := by
  obtain ⟨v, hv⟩ : ∃ v, (p.hg - p.lw).toNat = v + 1 := ⟨(p.hg - p.lw).toNat - 1, by omega⟩
  have h := pm_runs h1 h2 hv rs
  unfold pm
  rw [hv, Nat.mul_succ, ← hl]
  omega
theorem pm_pos (p : Part) : 0 < pm p := Nat.succ_pos _
def fillL (ls : List Int) (f t : Nat) (x : Int) : List Int := ls.take f ++ List.replicate (t - f) x ++ ls.drop t
theorem fill_len {ls : List Int} {f t : Nat} {x : Int} (h1 : f ≤ t) (h2 : t ≤ ls.length) : (fillL ls f t x).length = ls.length := by
  unfold fillL
  rw [List.length_append, List.length_append, List.length_take, List.length_replicate, List.length_drop]
  omega
theorem getD_fill {ls : List Int} {f t i : Nat} {x : Int} (h1 : f ≤ t) (h2 : t ≤ ls.length) : (fillL ls f t x).getD i 0 = if f ≤ i ∧ i < t then x else ls.getD i 0 := by
  unfold fillL
  rw [List.getD_eq_getElem?_getD, List.getD_eq_getElem?_getD]
  by_cases a : i < f
  · rw [if_neg (by omega), List.append_assoc, List.getElem?_append_left (by rw [List.length_take]; omega), List.getElem?_take_of_lt a]
  · rw [List.append_assoc, List.getElem?_append_right (by rw [List.length_take]; omega), List.length_take, Nat.min_eq_left (by omega)]
    by_cases b : i < t
    · rw [if_pos ⟨by omega, b⟩, List.getElem?_append_left (by rw [List.length_replicate]; omega), List.getElem?_replicate, if_pos (by omega)]
      rfl
    · rw [if_neg (by omega), List.getElem?_append_right (by rw [List.length_replicate]; omega), List.length_replicate, List.getElem?_drop]
      congr 2
      omega
theorem bne_not {x y : Bool} (h : x ≠ y) : ((!y) = true ↔ x = true) := by
  cases x <;> cases y <;> first | exact absurd rfl h | exact ⟨fun _ => rfl, fun _ => rfl⟩ | exact ⟨fun z => z, fun z => z⟩
/-- what holds while parts are left: for each best row -/
structure LInv (n : Nat) (lo hi a b : Nat → Int) (c0 : Int) (PS : List Part) (ls : List Int) : Prop where
  len : ls.length = n
  ok : ∀ X, BestS n lo hi a b X → ∀ p ∈ PS, PartOK n lo hi a b X c0 p
  lev : ∀ X, BestS n lo hi a b X → ∀ i, i < n → (∃ p ∈ PS, p.f ≤ i ∧ i < p.t) ∨ (c0 ≤ ls.getD i 0 ∧ (c0 < ls.getD i 0 → Ins n lo hi a b X (ls.getD i 0) i) ∧ ¬ Ins n lo hi a b X (ls.getD i 0 + 1) i)
section
variable {n : Nat} {lo hi a b : Nat → Int} {c0 : Int} {PS : List Part} {p : Part} {ls : List Int}
theorem LInv.done (v : LInv n lo hi a b c0 [] ls) {X : Nat → Int} (r : BestS n lo hi a b X) : Lev n lo hi a b c0 (fun i => ls.getD i 0) X := by
  have key : ∀ i, i < n → (c0 ≤ ls.getD i 0 ∧ (c0 < ls.getD i 0 → Ins n lo hi a b X (ls.getD i 0) i) ∧ ¬ Ins n lo hi a b X (ls.getD i 0 + 1) i) := fun i hi => by
    rcases v.lev X r i hi with ⟨p, m, _⟩ | h
    · cases m
    · exact h
  exact ⟨fun i h => (key i h).1, fun i h => (key i h).2.1, fun i h => (key i h).2.2⟩
theorem LInv.start (hn : 0 < n) {c1 : Int} (h : c0 ≤ c1) (hb : ∀ i, i < n → b i ≤ c1 + 1) (hl : ls.length = n) : LInv n lo hi a b c0 [⟨0, n, false, false, c0, c1⟩] ls :=
  ⟨hl, fun X r p m => by rw [List.mem_singleton.mp m]; exact part_start r.row hn h hb, fun X r i hi => .inl ⟨_, List.mem_cons_self, Nat.zero_le _, hi⟩⟩
theorem LInv.fill (v : LInv n lo hi a b c0 (PS ++ [p]) ls) (e : p.lw = p.hg) (hf : p.f ≤ p.t) (ht : p.t ≤ n) : LInv n lo hi a b c0 PS (fillL ls p.f p.t p.lw) := by
  have hl := v.len
  refine ⟨by rw [fill_len hf (by omega)]; exact hl, fun X r q m => v.ok X r q (List.mem_append_left _ m), fun X r i hi => ?_⟩
  rw [getD_fill hf (by omega)]
  by_cases c : p.f ≤ i ∧ i < p.t
  · rw [if_pos c]
    exact .inr ((v.ok X r p (List.mem_append_right _ List.mem_cons_self)).lev e c.1 c.2)
  · rw [if_neg c]
    rcases v.lev X r i hi with ⟨q, m, h⟩ | h
    · rcases List.mem_append.mp m with m | m
      · exact .inl ⟨q, m, h⟩
      · rw [List.mem_singleton.mp m] at h
        exact absurd h c
    · exact .inr h
/-- the runs of what is inside at a rate are parts -/
theorem LInv.cut (v : LInv n lo hi a b c0 (PS ++ [p]) ls) {rate : Int} (h1 : p.lw < rate) (h2 : rate ≤ p.hg) {bs : List Bool} (bl : bs.length = p.t - p.f) (hf : p.f < p.t)
    (hb : ∀ X, BestS n lo hi a b X → ∀ k, k < bs.length → (bs.getD k false = true ↔ Ins n lo hi a b X rate (p.f + k))) : LInv n lo hi a b c0 (PS ++ (runsV (bs.map V.bl)).map (newPart p rate)) ls := by
  have xl : (bs.map V.bl).length = p.t - p.f := by rw [List.length_map, bl]
  have item : ∀ k, k < bs.length → itemV (bs.map V.bl) k = .bl (bs.getD k false) := fun k hk => by
    unfold itemV
    rw [List.getD_eq_getElem?_getD, List.getD_eq_getElem?_getD, List.getElem?_map, List.getElem?_eq_getElem hk]
    rfl
  have isR := runsV_is (bs.map V.bl)
  refine ⟨v.len, fun X r q m => ?_, fun X r i hi => ?_⟩
  · rcases List.mem_append.mp m with m | m
    · exact v.ok X r q (List.mem_append_left _ m)
    · obtain ⟨rn, mr, rfl⟩ := List.mem_map.mp m
      obtain ⟨r1, r2, r3, r4, r5⟩ := isR rn mr
      have pk := v.ok X r p (List.mem_append_right _ List.mem_cons_self)
      have hbX := hb X r
      have ev : rn.v = .bl (wOf rn.v) := by
        have := r3 rn.f (Nat.le_refl _) r1
        rw [item _ (by omega)] at this
        rw [← this]
        rfl
      have val : ∀ k, k < bs.length → (bs.getD k false = wOf rn.v ↔ itemV (bs.map V.bl) k = rn.v) := fun k hk => by
        rw [item k hk, ev]
        exact ⟨fun e => congrArg V.bl e, fun e => by injection e⟩
      have := PartOK.cut pk h1 h2 (f := p.f + rn.f) (t := p.f + rn.t) (w := wOf rn.v) (by omega) (by omega) (by omega) (fun i i1 i2 => ?_) (fun ne => ?_) (fun ne => ?_)
      · have e1 : (if p.f + rn.f = p.f then p.L else !wOf rn.v) = (if rn.f = 0 then p.L else !wOf rn.v) := by
          by_cases z : rn.f = 0
          · rw [if_pos z, if_pos (by omega)]
          · rw [if_neg z, if_neg (by omega)]
        rw [e1] at this
        exact this
      · have h3 := (val (i - p.f) (by omega)).mpr (r3 (i - p.f) (by omega) (by omega))
        have h4 := hbX (i - p.f) (by omega)
        rw [show p.f + (i - p.f) = i by omega, h3] at h4
        exact h4
      · have n0 : rn.f ≠ 0 := fun z => ne (by omega)
        have h3 := r4 n0
        have h4 := hbX (rn.f - 1) (by omega)
        have h5 : bs.getD (rn.f - 1) false ≠ wOf rn.v := fun e => h3 ((val (rn.f - 1) (by omega)).mp e)
        rw [show p.f + (rn.f - 1) = p.f + rn.f - 1 by omega] at h4
        rw [← h4]
        exact bne_not h5
      · have n0 : rn.t ≠ (bs.map V.bl).length := fun z => ne (by omega)
        have h3 := r5 n0
        have h4 := hbX rn.t (by omega)
        have h5 : bs.getD rn.t false ≠ wOf rn.v := fun e => h3 ((val rn.t (by omega)).mp e)
        rw [← h4]
        exact bne_not h5
  · rcases v.lev X r i hi with ⟨q, m, h⟩ | h
    · rcases List.mem_append.mp m with m | m
      · exact .inl ⟨q, List.mem_append_left _ m, h⟩
      · rw [List.mem_singleton.mp m] at h
        obtain ⟨rn, mr, i1, i2⟩ := runsV_cov (bs.map V.bl) (i := i - p.f) (by omega)
        exact .inl ⟨newPart p rate rn, List.mem_append_right _ (List.mem_map.mpr ⟨rn, mr, rfl⟩), (show p.f + rn.f ≤ i by omega), (show i < p.f + rn.t by omega)⟩
    · exact .inr h
end
set_option Elab.async false
set_option linter.all false
set_option maxRecDepth 100000
set_option maxHeartbeats 4000000
def gSlice (to : TE) (tl th : TO) : TG := fun v σ H Q => to σ H fun o H1 => tl σ H1 fun a H2 => th σ H2 fun c H3 => ∃ l b xs ys, ∃ i j : Int, o = .ref l ∧ v = .ref b ∧ a = some i ∧ c = some j ∧ H3 l = some (.lst xs) ∧ H3 b = some (.lst ys) ∧ l ≠ b ∧ 0 ≤ i ∧ i ≤ j ∧ j ≤ xs.length ∧ xs.length + ys.length ≤ sizeLine ∧
  Q σ (upd H3 l (.lst (xs.take i.toNat ++ ys ++ xs.drop j.toNat)))
section
variable {X : Cx} {pos p2 : Pos}
theorem pg_slice {o : Expr} {lo hi : Option Expr} {to : TE} {tl th : TO} (ho : PE X o to) (hl : PO X lo tl) (hu : PO X hi th)
    (ha : ∀ v, assign (.Subscript o (.Slice lo hi none p2) pos) X.env v = (do
      let ov ← holding [v] (eval o X.env)
      let iv ← holding [v, ov] (eval (.Slice lo hi none p2) X.env)
      standAt pos
      holding [v, ov, iv] (setItem ov iv v)
      release [iv, v, ov] []) := by intro _; rfl) : PG X (.Subscript o (.Slice lo hi none p2) pos) (gSlice to tl th) := by
  refine ⟨fun pins s σ H v u Q I r h => ?_⟩
  rw [ha]
  refine wpAny_bind (wpAny_holding (thn (ho.run pins s σ H _ I h) fun ov s1 ⟨x, H1, I1, r1, q1⟩ => ?_))
  refine wpAny_bind (wpAny_holding ?_)
  refine wpAny_Slice (thn (hl.run pins s1 σ H1 _ I1 q1) fun vl s2 ⟨a, H2, I2, pl, q2⟩ => thn (hu.run pins s2 σ H2 _ I2 q2) fun vu s3 ⟨c, H3, I3, pu, q3⟩ => ?_)
  rw [evalPart_none]
  refine wpAny_pure ?_
  have I4 : Inv X pins σ H3 { s3 with heap := s3.heap.push { cls := .type "slice", data := .fields #[vl, vu, .none] } } := I3.kept (t' := s3.toks) fun b ob q => Heap.get?_push_of_some _ q
  obtain ⟨l, b, xs, ys, i, j, rfl, rfl, rfl, rfl, hL, hB, hne, h0, hij, hj, hz, q⟩ := q3
  cases r1
  cases r
  cases pl with
  | int _ t =>
    cases pu with
    | int _ t2 =>
      refine wpAny_bind (wpAny_standAt (wpAny_bind (wpAny_holding ?_)))
      refine set_slice I4 hL hB hne (Heap.IsSliceOf.new ..) ⟨t, rfl⟩ ⟨t2, rfl⟩ h0 hij hj hz fun s5 I5 => ?_
      exact wpAny_release ⟨σ, _, I5, q⟩
end
section
variable {K : PySem.W.Frag} {σ : L2.St} {H : Hp} {Q : VK} {D : Ends}
theorem r_gsl {to : TE} {tl th : TO} {R : L2.St → Hp → Prop} {v : V} (h : to σ H fun o H1 => tl σ H1 fun a H2 => th σ H2 fun c H3 => ∃ l b xs ys, ∃ i j : Int, o = .ref l ∧ v = .ref b ∧ a = some i ∧ c = some j ∧ H3 l = some (.lst xs) ∧ H3 b = some (.lst ys) ∧ l ≠ b ∧ 0 ≤ i ∧ i ≤ j ∧ j ≤ xs.length ∧ xs.length + ys.length ≤ sizeLine ∧
  R σ (upd H3 l (.lst (xs.take i.toNat ++ ys ++ xs.drop j.toNat)))) : gSlice to tl th v σ H R := h
theorem r_exgsl {l b : Addr} {xs ys : List V} {i j : Int} {P : Hp → Prop} (h1 : H l = some (.lst xs)) (h2 : H b = some (.lst ys)) (ne : l ≠ b) (a1 : 0 ≤ i) (a2 : i ≤ j) (a3 : j ≤ xs.length) (a4 : xs.length + ys.length ≤ sizeLine) (q : P (upd H l (.lst (xs.take i.toNat ++ ys ++ xs.drop j.toNat)))) :
    ∃ l' b' xs ys, ∃ i' j' : Int, V.ref l = .ref l' ∧ V.ref b = .ref b' ∧ some i = some i' ∧ some j = some j' ∧ H l' = some (.lst xs) ∧ H b' = some (.lst ys) ∧ l' ≠ b' ∧ 0 ≤ i' ∧ i' ≤ j' ∧ j' ≤ xs.length ∧ xs.length + ys.length ≤ sizeLine ∧ P (upd H l' (.lst (xs.take i'.toNat ++ ys ++ xs.drop j'.toNat))) :=
  ⟨l, b, xs, ys, i, j, rfl, rfl, rfl, rfl, h1, h2, ne, a1, a2, a3, a4, q⟩
def tTru (K : PySem.W.Frag) (ta : TE) : TT := fun σ H Q => ta σ H fun x H' => ∃ k, TruV K x H' k ∧ Q k H'
theorem pt_tru {X : Cx} {a : Expr} {ta : TE} (ha : PE X a ta) (he : ∀ whole, isTrue a X.env whole = (do let v ← whole; standAt a.pos; holding [v] (truthy v)) := by intro _; rfl) : PT X a (tTru X.K ta) := pt_truth ha he
theorem r_tru {ta : TE} {QB : Bool → Hp → Prop} (h : ta σ H fun x H' => ∃ k, TruV K x H' k ∧ QB k H') : tTru K ta σ H QB := h
theorem r_truL {p : Addr} {xs : List V} {P : Bool → Prop} (s : SqL K H p xs) (q : P (!xs.isEmpty)) : ∃ k, TruV K (.ref p) H k ∧ P k := ⟨_, .inl ⟨xs, s, rfl⟩, q⟩
theorem r_bm0 {T : String} {rr : V → List V → Hp → VK → Prop} {to : TE} (h : to σ H fun x H1 => tyV K T x H1 ∧ rr x [] H1 Q) : tBM0 K T rr to σ H Q := h
theorem r_pop {l : Addr} {xs : List V} {y : V} (h : H l = some (.lst (xs ++ [y]))) (q : Q y (upd H l (.lst xs))) : rPop (.ref l) [] H Q :=
  ⟨l, xs ++ [y], y, rfl, rfl, h, by simp, by rw [List.dropLast_concat]; exact q⟩
theorem r_star {te : TE} {t : TA} {R : List V → Hp → Prop} (h : te σ H fun x H1 => ∃ p xs, x = V.ref p ∧ (SqT K H1 p xs ∨ SqL K H1 p xs) ∧ t σ H1 fun ys H2 => R (xs ++ ys) H2) : StX.tStar K te t σ H R := h
theorem r_exstarT {p : Addr} {xs : List V} {P : List V → Prop} (s : SqT K H p xs) (q : P xs) : ∃ p' ys, V.ref p = V.ref p' ∧ (SqT K H p' ys ∨ SqL K H p' ys) ∧ P ys := ⟨p, xs, rfl, .inl s, q⟩
theorem r_aug {i : Nat} {te : TE} {ti : TIp} {v : V} (h : σ[i]? = some (some v)) (q : te σ H fun y H1 => ti v y H1 fun z H2 => D.nx (σ.set i (some z)) H2) : tAug i te ti D σ H := ⟨v, h, q⟩
theorem r_break (h : D.bk σ H) : tBreak D σ H := h
theorem r_cont (h : D.ct σ H) : tCont D σ H := h
theorem r_sortP {a : Addr} {ps : List (Int × Int)} {ts : List Addr} (hl : ts.length = ps.length) (s : SqL K H a (ts.map V.ref)) (ht : ∀ (i : Nat) (t : Addr), ts[i]? = some t → ∃ p : Int × Int, ps[i]? = some p ∧ H t = some (.tup [.int p.1, .int p.2]))
    (q : ∀ (us : List Addr) (qs : List (Int × Int)) (p : Addr), us.Perm ts → qs.Perm ps → us.length = qs.length → qs.Pairwise (fun x y => SrtO.lexB y x = false) → (∀ (i : Nat) (t : Addr), us[i]? = some t → ∃ p : Int × Int, qs[i]? = some p ∧ H t = some (.tup [.int p.1, .int p.2])) → H p = none → Q (.ref p) (upd H p (.lst (us.map V.ref)))) :
    rSortedPO K [.ref a] H Q := by
  classical
  -- the pair that stands at an address
  let k : V → Int × Int := fun x => match x with
    | .ref t => if h : ∃ p : Int × Int, H t = some (.tup [.int p.1, .int p.2]) then h.choose else (0, 0)
    | _ => (0, 0)
  have hk : ∀ t (p : Int × Int), H t = some (.tup [.int p.1, .int p.2]) → k (.ref t) = p := fun t p h => by
    have ex : ∃ p : Int × Int, H t = some (.tup [.int p.1, .int p.2]) := ⟨p, h⟩
    have e : k (.ref t) = ex.choose := dif_pos ex
    have h2 : some (HO.tup [.int p.1, .int p.2]) = some (HO.tup [.int ex.choose.1, .int ex.choose.2]) := h.symm.trans ex.choose_spec
    rw [e]
    injection h2 with h2
    injection h2 with h2
    injection h2 with h3 h4
    injection h4 with h4 _
    injection h3 with h3
    injection h4 with h4
    exact Prod.ext h3.symm h4.symm
  refine ⟨a, ts.map V.ref, k, rfl, s, fun x hx => ?_, fun ys p hs hb hp => ?_⟩
  · obtain ⟨t, mt, rfl⟩ := List.mem_map.mp hx
    obtain ⟨i, hi⟩ := List.mem_iff_getElem?.mp mt
    obtain ⟨p, _, h⟩ := ht i t hi
    refine ⟨t, rfl, ?_⟩
    rw [hk t p h]
    exact h
  · -- the addresses in their new turns
    have per := hb.perm
    obtain ⟨us, rfl, pu⟩ : ∃ us : List Addr, ys = us.map V.ref ∧ us.Perm ts := by
      refine ⟨ys.filterMap fun v => match v with | .ref t => some t | _ => none, ?_, ?_⟩
      · have all : ∀ v ∈ ys, ∃ t, v = V.ref t := fun v hv => by
          obtain ⟨t, _, e⟩ := List.mem_map.mp (per.subset hv)
          exact ⟨t, e.symm⟩
        clear hs hb per
        induction ys with
        | nil => rfl
        | cons v r ih =>
          obtain ⟨t, rfl⟩ := all v List.mem_cons_self
          exact congrArg (V.ref t :: ·) (ih fun w hw => all w (List.mem_cons_of_mem _ hw))
      · have h1 := per.filterMap fun v => match v with | .ref t => some t | _ => none
        rw [List.filterMap_map] at h1
        have e : (List.filterMap ((fun v : V => match v with | .ref t => some t | _ => none) ∘ V.ref) ts) = ts := by
          have : ((fun v : V => match v with | .ref t => some t | _ => none) ∘ V.ref) = some := rfl
          rw [this, List.filterMap_some]
        rw [e] at h1
        exact h1
    have at_ : ∀ t ∈ ts, H t = some (.tup [.int (k (.ref t)).1, .int (k (.ref t)).2]) := fun t mt => by
      obtain ⟨i, hi⟩ := List.mem_iff_getElem?.mp mt
      obtain ⟨p, _, h⟩ := ht i t hi
      rw [hk t p h]
      exact h
    have eps : ps = ts.map fun t => k (.ref t) := by
      refine List.ext_getElem? fun i => ?_
      rw [List.getElem?_map]
      cases e : ts[i]? with
      | none =>
        rw [List.getElem?_eq_none_iff] at e
        show _ = none
        exact List.getElem?_eq_none_iff.mpr (by omega)
      | some t =>
        obtain ⟨p, e2, h⟩ := ht i t e
        rw [e2, ← hk t p h]
        rfl
    refine q us (us.map fun t => k (.ref t)) p pu ?_ (by rw [List.length_map]) ?_ (fun i t hi => ?_) hp
    · rw [eps]
      exact pu.map _
    · rw [List.pairwise_map]
      exact List.pairwise_map.mp hs
    · refine ⟨k (.ref t), by rw [List.getElem?_map, hi] <;> rfl, at_ t (pu.subset (List.mem_of_getElem? hi))⟩
end
set_option Elab.async false
set_option linter.all false
set_option maxRecDepth 100000
set_option maxHeartbeats 4000000
def top (i : Nat) : Stmt := PySem.Challenge.pw_evenbits_k44_room_and_needless_bounds_by.main.body.getD i (.Pass ⟨0, 0, 0, 0⟩)
abbrev s_is_whole : Stmt := top 3
theorem sc_is_whole : FnScope ["thing"] ["thing"] (defScope s_is_whole) := ⟨rfl, rfl, rfl, by decide +kernel, rfl, by decide +kernel, by decide +kernel⟩
abbrev s_is_between : Stmt := top 4
theorem sc_is_between : FnScope ["thing", "least", "most"] ["thing", "least", "most"] (defScope s_is_between) := ⟨rfl, rfl, rfl, by decide +kernel, rfl, by decide +kernel, by decide +kernel⟩
abbrev s_is_whole_list : Stmt := top 5
theorem sc_is_whole_list : FnScope ["thing", "entry"] ["thing"] (defScope s_is_whole_list) := ⟨rfl, rfl, rfl, by decide +kernel, rfl, by decide +kernel, by decide +kernel⟩
abbrev s_is_at_most : Stmt := top 6
theorem sc_is_at_most : FnScope ["row", "other", "one", "two"] ["row", "other"] (defScope s_is_at_most) := ⟨rfl, rfl, rfl, by decide +kernel, rfl, by decide +kernel, by decide +kernel⟩
abbrev s_sums_from_zero : Stmt := top 7
theorem sc_sums_from_zero : FnScope ["row", "sums", "entry"] ["row"] (defScope s_sums_from_zero) := ⟨rfl, rfl, rfl, by decide +kernel, rfl, by decide +kernel, by decide +kernel⟩
abbrev s_runs_of : Stmt := top 8
theorem sc_runs_of : FnScope ["items", "runs", "first", "last"] ["items"] (defScope s_runs_of) := ⟨rfl, rfl, rfl, by decide +kernel, rfl, by decide +kernel, by decide +kernel⟩
abbrev s_entry_at : Stmt := top 9
theorem sc_entry_at : FnScope ["least", "most", "level"] ["least", "most", "level"] (defScope s_entry_at) := ⟨rfl, rfl, rfl, by decide +kernel, rfl, by decide +kernel, by decide +kernel⟩
abbrev s_Plan___init__ : Stmt := inClass (top 19) 0
theorem sc_Plan___init__ : FnScope ["self", "low", "high", "least", "most", "bounds", "numbers"] ["self", "low", "high", "least", "most"] (defScope s_Plan___init__) := ⟨rfl, rfl, rfl, by decide +kernel, rfl, by decide +kernel, by decide +kernel⟩
abbrev s_Plan_low : Stmt := inClass (top 19) 2
theorem sc_Plan_low : FnScope ["self"] ["self"] (defScope s_Plan_low) := ⟨rfl, rfl, rfl, by decide +kernel, rfl, by decide +kernel, by decide +kernel⟩
abbrev s_Plan_high : Stmt := inClass (top 19) 3
theorem sc_Plan_high : FnScope ["self"] ["self"] (defScope s_Plan_high) := ⟨rfl, rfl, rfl, by decide +kernel, rfl, by decide +kernel, by decide +kernel⟩
abbrev s_Plan_least : Stmt := inClass (top 19) 4
theorem sc_Plan_least : FnScope ["self"] ["self"] (defScope s_Plan_least) := ⟨rfl, rfl, rfl, by decide +kernel, rfl, by decide +kernel, by decide +kernel⟩
abbrev s_Plan_most : Stmt := inClass (top 19) 5
theorem sc_Plan_most : FnScope ["self"] ["self"] (defScope s_Plan_most) := ⟨rfl, rfl, rfl, by decide +kernel, rfl, by decide +kernel, by decide +kernel⟩
abbrev s_Plan_total : Stmt := inClass (top 19) 6
theorem sc_Plan_total : FnScope ["self"] ["self"] (defScope s_Plan_total) := ⟨rfl, rfl, rfl, by decide +kernel, rfl, by decide +kernel, by decide +kernel⟩
abbrev s_Plan___len__ : Stmt := inClass (top 19) 7
theorem sc_Plan___len__ : FnScope ["self"] ["self"] (defScope s_Plan___len__) := ⟨rfl, rfl, rfl, by decide +kernel, rfl, by decide +kernel, by decide +kernel⟩
abbrev s_Plan___eq__ : Stmt := inClass (top 19) 8
theorem sc_Plan___eq__ : FnScope ["self", "other"] ["self", "other"] (defScope s_Plan___eq__) := ⟨rfl, rfl, rfl, by decide +kernel, rfl, by decide +kernel, by decide +kernel⟩
abbrev s_check_bound : Stmt := top 20
theorem sc_check_bound : FnScope ["plan", "time", "side"] ["plan", "time", "side"] (defScope s_check_bound) := ⟨rfl, rfl, rfl, by decide +kernel, rfl, by decide +kernel, by decide +kernel⟩
abbrev s_Plan_loosened : Stmt := inClass (top 19) 15
theorem sc_Plan_loosened : FnScope ["self", "time", "side", "low", "high", "at"] ["self", "time", "side"] (defScope s_Plan_loosened) := ⟨rfl, rfl, rfl, by decide +kernel, rfl, by decide +kernel, by decide +kernel⟩
abbrev s_sums_of : Stmt := top 23
theorem sc_sums_of : FnScope ["row"] ["row"] (defScope s_sums_of) := ⟨rfl, rfl, rfl, by decide +kernel, rfl, by decide +kernel, by decide +kernel⟩
abbrev s_is_row : Stmt := top 22
theorem sc_is_row : FnScope ["plan", "thing", "sums"] ["plan", "thing"] (defScope s_is_row) := ⟨rfl, rfl, rfl, by decide +kernel, rfl, by decide +kernel, by decide +kernel⟩
abbrev s__begun_sums : Stmt := top 31
theorem sc__begun_sums : FnScope ["plan", "floor", "ceiling", "low", "high", "least", "most"] ["plan"] (defScope s__begun_sums) := ⟨rfl, rfl, rfl, by decide +kernel, rfl, by decide +kernel, by decide +kernel⟩
abbrev s_has_row : Stmt := top 24
theorem sc_has_row : FnScope ["plan", "floor", "ceiling"] ["plan"] (defScope s_has_row) := ⟨rfl, rfl, rfl, by decide +kernel, rfl, by decide +kernel, by decide +kernel⟩
abbrev s_conflict : Stmt := top 25
theorem sc_conflict : FnScope ["plan", "low", "high", "slowest", "fastest", "s", "t", "unreached", "overshot"] ["plan"] (defScope s_conflict) := ⟨rfl, rfl, rfl, by decide +kernel, rfl, by decide +kernel, by decide +kernel⟩
abbrev s_check_rows : Stmt := top 29
theorem sc_check_rows : FnScope ["plan", "first", "last"] ["plan"] (defScope s_check_rows) := ⟨rfl, rfl, rfl, by decide +kernel, rfl, by decide +kernel, by decide +kernel⟩
abbrev s_sum_ranges : Stmt := top 28
theorem sc_sum_ranges : FnScope ["plan", "floor", "ceiling", "least", "most", "time"] ["plan"] (defScope s_sum_ranges) := ⟨rfl, rfl, rfl, by decide +kernel, rfl, by decide +kernel, by decide +kernel⟩
abbrev s_entries_of : Stmt := top 30
theorem sc_entries_of : FnScope ["sums", "before", "after"] ["sums"] (defScope s_entries_of) := ⟨rfl, rfl, rfl, by decide +kernel, rfl, by decide +kernel, by decide +kernel⟩
abbrev s_fullest : Stmt := top 26
theorem sc_fullest : FnScope ["plan", "ceiling"] ["plan"] (defScope s_fullest) := ⟨rfl, rfl, rfl, by decide +kernel, rfl, by decide +kernel, by decide +kernel⟩
abbrev s_emptiest : Stmt := top 27
theorem sc_emptiest : FnScope ["plan", "floor"] ["plan"] (defScope s_emptiest) := ⟨rfl, rfl, rfl, by decide +kernel, rfl, by decide +kernel, by decide +kernel⟩
abbrev s__even_rate : Stmt := top 38
theorem sc__even_rate : FnScope ["bounds", "part", "lowest", "low", "high", "least", "most", "first", "last", "left", "right", "needed", "amount", "growing", "turns", "rate", "turn", "step", "reached", "bound"] ["bounds", "part", "lowest"] (defScope s__even_rate) := ⟨rfl, rfl, rfl, by decide +kernel, rfl, by decide +kernel, by decide +kernel⟩
abbrev s__inside_part : Stmt := top 39
theorem sc__inside_part : FnScope ["bounds", "part", "rate", "low", "high", "least", "most", "first", "last", "left", "right", "entries", "outside", "inside", "came_from", "time", "leaves", "enters", "within", "found", "from_outside", "from_inside", "at"] ["bounds", "part", "rate"] (defScope s__inside_part) := ⟨rfl, rfl, rfl, by decide +kernel, rfl, by decide +kernel, by decide +kernel⟩
abbrev s_levels_of : Stmt := top 37
theorem sc_levels_of : FnScope ["plan", "bounds", "levels", "parts", "first", "last", "left", "right", "lowest", "highest", "part", "rate", "inside", "begin", "end", "within", "before", "behind", "levels_left"] ["plan"] (defScope s_levels_of) := ⟨rfl, rfl, rfl, by decide +kernel, rfl, by decide +kernel, by decide +kernel⟩
abbrev s_plan_of_best : Stmt := top 36
theorem sc_plan_of_best : FnScope ["plan", "levels", "low", "high", "at", "bounds", "lesser", "greater", "least", "most", "level"] ["plan"] (defScope s_plan_of_best) := ⟨rfl, rfl, rfl, by decide +kernel, rfl, by decide +kernel, by decide +kernel⟩
abbrev s_best_row : Stmt := top 33
theorem sc_best_row : FnScope ["plan"] ["plan"] (defScope s_best_row) := ⟨rfl, rfl, rfl, by decide +kernel, rfl, by decide +kernel, by decide +kernel⟩
abbrev s_latest_row : Stmt := top 34
theorem sc_latest_row : FnScope ["plan"] ["plan"] (defScope s_latest_row) := ⟨rfl, rfl, rfl, by decide +kernel, rfl, by decide +kernel, by decide +kernel⟩
abbrev s_best_entries : Stmt := top 35
theorem sc_best_entries : FnScope ["plan"] ["plan"] (defScope s_best_entries) := ⟨rfl, rfl, rfl, by decide +kernel, rfl, by decide +kernel, by decide +kernel⟩
abbrev s__room_within : Stmt := top 45
theorem sc__room_within : FnScope ["plan", "other", "time", "side"] ["plan", "other", "time", "side"] (defScope s__room_within) := ⟨rfl, rfl, rfl, by decide +kernel, rfl, by decide +kernel, by decide +kernel⟩
abbrev s_room_of : Stmt := top 41
theorem sc_room_of : FnScope ["plan", "time", "side"] ["plan", "time", "side"] (defScope s_room_of) := ⟨rfl, rfl, rfl, by decide +kernel, rfl, by decide +kernel, by decide +kernel⟩
abbrev s_moved_bound : Stmt := top 44
theorem sc_moved_bound : FnScope ["plan", "time", "side", "by", "low", "high"] ["plan", "time", "side", "by"] (defScope s_moved_bound) := ⟨rfl, rfl, rfl, by decide +kernel, rfl, by decide +kernel, by decide +kernel⟩
abbrev s__inner_bounds : Stmt := top 46
theorem sc__inner_bounds : FnScope ["plan", "time", "side"] ["plan"] (defScope s__inner_bounds) := ⟨rfl, rfl, rfl, by decide +kernel, rfl, by decide +kernel, by decide +kernel⟩
abbrev s_needless : Stmt := top 42
theorem sc_needless : FnScope ["plan", "time", "side"] ["plan"] (defScope s_needless) := ⟨rfl, rfl, rfl, by decide +kernel, rfl, by decide +kernel, by decide +kernel⟩
abbrev s_idle : Stmt := top 43
theorem sc_idle : FnScope ["plan", "entries", "time", "side"] ["plan"] (defScope s_idle) := ⟨rfl, rfl, rfl, by decide +kernel, rfl, by decide +kernel, by decide +kernel⟩
abbrev s__law_bag : Stmt := top 48
theorem sc__law_bag : FnScope ["script", "stir", "cell"] ["script"] (defScope s__law_bag) := ⟨rfl, rfl, rfl, by decide +kernel, rfl, by decide +kernel, by decide +kernel⟩
abbrev s__law_stirred : Stmt := top 49
theorem sc__law_stirred : FnScope ["bag", "wide", "found", "k", "mixed"] ["bag", "wide"] (defScope s__law_stirred) := ⟨rfl, rfl, rfl, by decide +kernel, rfl, by decide +kernel, by decide +kernel⟩
abbrev s__law_draw : Stmt := top 50
theorem sc__law_draw : FnScope ["bag", "wide", "found"] ["bag", "wide"] (defScope s__law_draw) := ⟨rfl, rfl, rfl, by decide +kernel, rfl, by decide +kernel, by decide +kernel⟩
abbrev s__law_alike : Stmt := top 51
theorem sc__law_alike : FnScope ["found", "due", "k"] ["found", "due"] (defScope s__law_alike) := ⟨rfl, rfl, rfl, by decide +kernel, rfl, by decide +kernel, by decide +kernel⟩
abbrev s__law_plan : Stmt := top 53
theorem sc__law_plan : FnScope ["box"] ["box"] (defScope s__law_plan) := ⟨rfl, rfl, rfl, by decide +kernel, rfl, by decide +kernel, by decide +kernel⟩
abbrev s__law_sums : Stmt := top 54
abbrev s__law_box : Stmt := top 52
theorem sc__law_box : FnScope ["bag", "most", "far", "row", "under", "over", "low", "high", "here", "loose", "entry", "k"] ["bag", "most", "far"] (defScope s__law_box) := ⟨rfl, rfl, rfl, by decide +kernel, rfl, by decide +kernel, by decide +kernel⟩
abbrev s__law_all : Stmt := top 55
theorem sc__law_all : FnScope ["box", "rows", "k", "longer", "row", "here", "entry"] ["box"] (defScope s__law_all) := ⟨rfl, rfl, rfl, by decide +kernel, rfl, by decide +kernel, by decide +kernel⟩
abbrev s__law_squares : Stmt := top 56
theorem sc__law_squares : FnScope ["row", "entry"] ["row"] (defScope s__law_squares) := ⟨rfl, rfl, rfl, by decide +kernel, rfl, by decide +kernel, by decide +kernel⟩
abbrev s__law_best : Stmt := top 57
theorem sc__law_best : FnScope ["rows", "least", "row"] ["rows"] (defScope s__law_best) := ⟨rfl, rfl, rfl, by decide +kernel, rfl, by decide +kernel, by decide +kernel⟩
abbrev s__law_moved : Stmt := top 59
theorem sc__law_moved : FnScope ["box", "k", "edge", "by", "low", "high"] ["box", "k", "edge", "by"] (defScope s__law_moved) := ⟨rfl, rfl, rfl, by decide +kernel, rfl, by decide +kernel, by decide +kernel⟩
abbrev s__law_loose : Stmt := top 60
theorem sc__law_loose : FnScope ["box", "k", "edge"] ["box", "k", "edge"] (defScope s__law_loose) := ⟨rfl, rfl, rfl, by decide +kernel, rfl, by decide +kernel, by decide +kernel⟩
abbrev s__law_room_right : Stmt := top 61
theorem sc__law_room_right : FnScope ["box", "best", "k", "edge", "told", "way", "inner", "closer", "rows"] ["box", "best", "k", "edge"] (defScope s__law_room_right) := ⟨rfl, rfl, rfl, by decide +kernel, rfl, by decide +kernel, by decide +kernel⟩
abbrev s_law : Stmt := top 62
theorem sc_law : FnScope ["script", "bag", "turn", "box", "made", "best", "due", "k", "edge", "rows", "loose", "told", "row"] ["script"] (defScope s_law) := ⟨rfl, rfl, rfl, by decide +kernel, rfl, by decide +kernel, by decide +kernel⟩
def fn : List Df := [
  ⟨fun K => He.ga K "is_whole", "is_whole", "is_whole", s_is_whole⟩,
  ⟨fun K => He.ga K "is_between", "is_between", "is_between", s_is_between⟩,
  ⟨fun K => He.ga K "is_whole_list", "is_whole_list", "is_whole_list", s_is_whole_list⟩,
  ⟨fun K => He.ga K "is_at_most", "is_at_most", "is_at_most", s_is_at_most⟩,
  ⟨fun K => He.ga K "sums_from_zero", "sums_from_zero", "sums_from_zero", s_sums_from_zero⟩,
  ⟨fun K => He.ga K "runs_of", "runs_of", "runs_of", s_runs_of⟩,
  ⟨fun K => He.ga K "entry_at", "entry_at", "entry_at", s_entry_at⟩,
  ⟨fun K => He.ma K (He.ga K "Plan") "__init__", "__init__", "Plan.__init__", s_Plan___init__⟩,
  ⟨pgA "Plan" "low", "low", "Plan.low", s_Plan_low⟩,
  ⟨pgA "Plan" "high", "high", "Plan.high", s_Plan_high⟩,
  ⟨pgA "Plan" "least", "least", "Plan.least", s_Plan_least⟩,
  ⟨pgA "Plan" "most", "most", "Plan.most", s_Plan_most⟩,
  ⟨pgA "Plan" "total", "total", "Plan.total", s_Plan_total⟩,
  ⟨fun K => He.ma K (He.ga K "Plan") "__len__", "__len__", "Plan.__len__", s_Plan___len__⟩,
  ⟨fun K => He.ma K (He.ga K "Plan") "__eq__", "__eq__", "Plan.__eq__", s_Plan___eq__⟩,
  ⟨fun K => He.ga K "check_bound", "check_bound", "check_bound", s_check_bound⟩,
  ⟨fun K => He.ma K (He.ga K "Plan") "loosened", "loosened", "Plan.loosened", s_Plan_loosened⟩,
  ⟨fun K => He.ga K "sums_of", "sums_of", "sums_of", s_sums_of⟩,
  ⟨fun K => He.ga K "is_row", "is_row", "is_row", s_is_row⟩,
  ⟨fun K => He.ga K "_begun_sums", "_begun_sums", "_begun_sums", s__begun_sums⟩,
  ⟨fun K => He.ga K "has_row", "has_row", "has_row", s_has_row⟩,
  ⟨fun K => He.ga K "conflict", "conflict", "conflict", s_conflict⟩,
  ⟨fun K => He.ga K "check_rows", "check_rows", "check_rows", s_check_rows⟩,
  ⟨fun K => He.ga K "sum_ranges", "sum_ranges", "sum_ranges", s_sum_ranges⟩,
  ⟨fun K => He.ga K "entries_of", "entries_of", "entries_of", s_entries_of⟩,
  ⟨fun K => He.ga K "fullest", "fullest", "fullest", s_fullest⟩,
  ⟨fun K => He.ga K "emptiest", "emptiest", "emptiest", s_emptiest⟩,
  ⟨fun K => He.ga K "_even_rate", "_even_rate", "_even_rate", s__even_rate⟩,
  ⟨fun K => He.ga K "_inside_part", "_inside_part", "_inside_part", s__inside_part⟩,
  ⟨fun K => He.ga K "levels_of", "levels_of", "levels_of", s_levels_of⟩,
  ⟨fun K => He.ga K "plan_of_best", "plan_of_best", "plan_of_best", s_plan_of_best⟩,
  ⟨fun K => He.ga K "best_row", "best_row", "best_row", s_best_row⟩,
  ⟨fun K => He.ga K "latest_row", "latest_row", "latest_row", s_latest_row⟩,
  ⟨fun K => He.ga K "best_entries", "best_entries", "best_entries", s_best_entries⟩,
  ⟨fun K => He.ga K "_room_within", "_room_within", "_room_within", s__room_within⟩,
  ⟨fun K => He.ga K "room_of", "room_of", "room_of", s_room_of⟩,
  ⟨fun K => He.ga K "moved_bound", "moved_bound", "moved_bound", s_moved_bound⟩,
  ⟨fun K => He.ga K "_inner_bounds", "_inner_bounds", "_inner_bounds", s__inner_bounds⟩,
  ⟨fun K => He.ga K "needless", "needless", "needless", s_needless⟩,
  ⟨fun K => He.ga K "idle", "idle", "idle", s_idle⟩,
  ⟨fun K => He.ga K "_law_bag", "_law_bag", "_law_bag", s__law_bag⟩,
  ⟨fun K => He.ga K "_law_stirred", "_law_stirred", "_law_stirred", s__law_stirred⟩,
  ⟨fun K => He.ga K "_law_draw", "_law_draw", "_law_draw", s__law_draw⟩,
  ⟨fun K => He.ga K "_law_alike", "_law_alike", "_law_alike", s__law_alike⟩,
  ⟨fun K => He.ga K "_law_plan", "_law_plan", "_law_plan", s__law_plan⟩,
  ⟨fun K => He.ga K "_law_sums", "_law_sums", "_law_sums", s__law_sums⟩,
  ⟨fun K => He.ga K "_law_box", "_law_box", "_law_box", s__law_box⟩,
  ⟨fun K => He.ga K "_law_all", "_law_all", "_law_all", s__law_all⟩,
  ⟨fun K => He.ga K "_law_squares", "_law_squares", "_law_squares", s__law_squares⟩,
  ⟨fun K => He.ga K "_law_best", "_law_best", "_law_best", s__law_best⟩,
  ⟨fun K => He.ga K "_law_moved", "_law_moved", "_law_moved", s__law_moved⟩,
  ⟨fun K => He.ga K "_law_loose", "_law_loose", "_law_loose", s__law_loose⟩,
  ⟨fun K => He.ga K "_law_room_right", "_law_room_right", "_law_room_right", s__law_room_right⟩,
  ⟨fun K => He.ga K "law", "law", "law", s_law⟩]
def fa : List Fb := [.b (.free "isinstance"),
  .b (.free "bool"),
  .b (.free "int"),
  .b (.glo "is_whole"),
  .b (.glo "is_between"),
  .b (.free "all"),
  .b (.free "len"),
  .b (.int "MOST_TIMES" 200),
  .b (.free "list"),
  .b (.glo "is_whole_list"),
  .b (.free "zip"),
  .b (.glo "is_at_most"),
  .b (.glo "sums_from_zero"),
  .b (.free "range"),
  .b (.glo "runs_of"),
  .b (.free "min"),
  .b (.free "max"),
  .b (.glo "entry_at"),
  .b (.free "any"),
  .b (.cls "Plan"),
  .b (.mkr "Plan"),
  .prop "Plan" "low",
  .prop "Plan" "high",
  .prop "Plan" "least",
  .prop "Plan" "most",
  .prop "Plan" "total",
  .b (.meth "Plan" "__len__"),
  .b (.glo "Plan"),
  .b (.meth "Plan" "__eq__"),
  .b (.glo "check_bound"),
  .b (.free "sum"),
  .b (.meth "Plan" "loosened"),
  .b (.glo "sums_of"),
  .b (.glo "is_row"),
  .b (.glo "_begun_sums"),
  .b (.glo "has_row"),
  .b (.glo "conflict"),
  .b (.glo "check_rows"),
  .b (.glo "sum_ranges"),
  .b (.glo "entries_of"),
  .b (.glo "fullest"),
  .b (.glo "emptiest"),
  .b (.free "sorted"),
  .b (.glo "_even_rate"),
  .b (.glo "_inside_part"),
  .b (.glo "levels_of"),
  .b (.glo "plan_of_best"),
  .b (.glo "best_row"),
  .b (.glo "latest_row"),
  .b (.glo "best_entries"),
  .b (.glo "_room_within"),
  .b (.glo "room_of"),
  .b (.glo "moved_bound"),
  .b (.glo "_inner_bounds"),
  .b (.glo "needless"),
  .b (.glo "idle"),
  .b (.free "abs"),
  .b (.glo "_law_bag"),
  .b (.glo "_law_stirred"),
  .b (.glo "_law_draw"),
  .b (.free "str"),
  .b (.free "tuple"),
  .b (.glo "_law_alike"),
  .b (.glo "_law_plan"),
  .b (.glo "_law_sums"),
  .b (.glo "_law_box"),
  .b (.glo "_law_all"),
  .b (.glo "_law_squares"),
  .b (.glo "_law_best"),
  .b (.glo "_law_moved"),
  .b (.glo "_law_loose"),
  .b (.glo "_law_room_right"),
  .findB "Plan" "__ne__" "object.__ne__",
  .isi "Plan",
  .b (.glo "law"),
  .kit "Plan" "Plan" true,
  .b (.noat "Plan" "_low"),
  .b (.noat "Plan" "_high"),
  .b (.noat "Plan" "_least"),
  .b (.noat "Plan" "_most")]
set_option Elab.async false
set_option linter.all false
set_option maxRecDepth 100000
set_option maxHeartbeats 0
abbrev R : PySem.W.OpenRow := PySem.W.OpenLaw.row PySem.Challenge.rw_evenbits_k44_room_and_needless_bounds_by
abbrev hk : PySem.W.Hook := hookM 6 fa fn
def ob (s : PySem.W.SharedT) : He.AlD := obsMG 6 fa fn (HandSHeadRun.getT s)
theorem ob_eq (s : PySem.W.SharedT) : ob s = hk.obs s.abs := obsMG_eq (HandSHeadRun.getT_eq s)
theorem run (w : World) : HandSHeadRun.RunEq R (PySem.W.view R.prog [62]) hk ob 9000 ("_wall" :: "__name__" :: "MOST_TIMES" :: "is_whole" :: "is_between" :: "is_whole_list" :: "is_at_most" :: "sums_from_zero" :: "runs_of" :: "entry_at" :: "EvenError" :: "InvalidPlan" :: "InvalidRow" :: "InvalidTime" :: "InvalidSide" :: "InvalidNumber" :: "NoRow" :: "Plan" :: "check_bound" :: "is_row" :: "sums_of" :: "has_row" :: "conflict" :: "fullest" :: "emptiest" :: "sum_ranges" :: "check_rows" :: "entries_of" :: "_begun_sums" :: "best_row" :: "latest_row" :: "best_entries" :: "plan_of_best" :: "levels_of" :: "_even_rate" :: "_inside_part" :: "room_of" :: "needless" :: "idle" :: "moved_bound" :: "_room_within" :: "_inner_bounds" :: "_law_bag" :: "_law_stirred" :: "_law_draw" :: "_law_alike" :: "_law_box" :: "_law_plan" :: "_law_sums" :: "_law_all" :: "_law_squares" :: "_law_best" :: "_law_top" :: "_law_moved" :: "_law_loose" :: "_law_room_right" :: ([] : List PySem.Str)) w := by
  intro os
  kernel_rfl
set_option Elab.async false
set_option linter.all false
set_option maxRecDepth 100000
set_option maxHeartbeats 4000000
set_option exponentiation.threshold 3000
local macro_rules | `(tactic| walk_at "ev.mem") => `(tactic| focus (repeat (first | exact List.Mem.head _ | refine' List.Mem.tail _ ?_)))
local macro_rules | `(tactic| walk_at "ev.hg") => `(tactic| first | assumption | exact upd_same | (refine' Z.get ?z ?m; (case z => assumption); (case m => walk_at "ev.mem")) | (refine' ZJ.get ?z ?m; (case z => assumption); (case m => walk_at "ev.mem")) | (refine' Z.keep ?z ?h ?n; (case z => assumption); (case h => assumption); (case n => first | (simp; done) | (simp; first | assumption | (apply Ne.symm; assumption)))) | (refine' ZJ.keep ?z ?h ?n; (case z => assumption); (case h => assumption); (case n => first | assumption | (apply Ne.symm; assumption))))
local macro_rules | `(tactic| walk_at "ev.sq") => `(tactic| first | assumption | (apply SqL.of; walk_at "ev.hg"))
local macro_rules | `(tactic| walk_at "ev.st") => `(tactic| first | assumption | (apply SqT.of; walk_at "ev.hg"))
local macro_rules | `(tactic| walk_at "ev.sz") => `(tactic| first | exact Nat.le_of_ble_eq_true rfl | (apply small1000'; simp; done) | (apply small1000'; simp; omega) | (apply small1000'; simp only [List.length_map, List.length_append, List.length_range, List.length_reverse, List.length_cons, List.length_nil, List.length_set]; omega))
local macro_rules | `(tactic| walk_at "ev.szl") => `(tactic| first | exact Nat.le_of_ble_eq_true rfl | (apply smalllt'; simp; done) | (apply smalllt'; simp; omega) | (apply smalllt'; simp only [List.length_map, List.length_append, List.length_range, List.length_reverse, List.length_cons, List.length_nil, List.length_set]; omega))
local macro_rules | `(tactic| walk_at "ev.1") => `(tactic| with_reducible first
  | refine' r_seq ?_ | refine' r_asg ?_ | refine' r_op ?_ | (refine' r_var ?v ?_; (case v => k_dflt exact rfl)) | refine' r_c ?_ | refine' r_name ?_ | refine' r_I0 ?_
  | (refine' r_I ?c ?_; (case c => k_dflt exact pow10 (by decide)))
  | refine' r_cons ?_ | refine' r_nil ?_ | refine' r_call ?_ | refine' r_drop ?_ | refine' r_ret ?_ | refine' r_ifs ?_ | refine' r_test ?_ | refine' r_exif ?_ | refine' r_un ?_ | refine' r_U ?_
  | (refine' r_ixL ?s ?_; (case s => k_dflt walk_at "ev.sq")) | (refine' r_ixT ?s ?_; (case s => k_dflt walk_at "ev.st")) | (refine' r_at ?e ?_; (case e => k_dflt exact rfl)) | (refine' r_ixn ?e ?_; (case e => k_dflt exact rfl)) | (refine' r_ixST (r_ixT ?s ?_); (case s => k_dflt walk_at "ev.st")) | (refine' r_ixSL (r_ixL ?s ?_); (case s => k_dflt walk_at "ev.sq"))
  | refine' r_cb ?_ | refine' r_B ?_ | refine' r_and ?_ | refine' r_or ?_ | refine' r_not ?_ | refine' r_andV ?_ | refine' r_orV ?_ | refine' r_notV ?_ | refine' r_if ?_
  | refine' iteT ?_ | refine' iteF ?_ | refine' iteNT ?_ | refine' iteNF ?_ | refine' r_chain ?_
  | (refine' r_gtup ?s ?e ?_; (case s => k_dflt walk_at "ev.st"); (case e => k_dflt exact rfl)) | refine' r_gcons ?_ | refine' r_gnil ?_ | refine' r_gsub ?_
  | (refine' r_setL ?s ?_; (case s => k_dflt walk_at "ev.hg")) | refine' r_tup ?_ | refine' r_lst ?_
  | refine' r_bm ?_ | (refine' r_tyL ?s ?_; (case s => k_dflt walk_at "ev.hg")) | (refine' r_app ?s ?e ?_; (case s => k_dflt walk_at "ev.hg"); (case e => k_dflt walk_at "ev.szl"))
  | refine' r_sl ?_ | refine' r_part ?_ | refine' r_exint ?_ | refine' r_nopart ?_ | (refine' r_slL ?s ?_; (case s => k_dflt walk_at "ev.sq")) | refine' r_revL ?_ | (refine' r_exrev ?s ?_; (case s => k_dflt walk_at "ev.sq"))
  | (refine' r_eq ?e ?_; (case e => k_dflt exact rfl)) | (refine' r_ne ?e ?_; (case e => k_dflt exact rfl)) | refine' r_par ?_ | refine' r_expar ?_ | refine' r_par3 ?_ | refine' r_expar3 ?_ | refine' r_methK ?_ | refine' r_callKw ?_ | refine' r_ckw ?_ | refine' r_zipL ?_ | refine' r_augS ?_ | refine' r_ipI ?_ | refine' r_ienumS ?_ | (refine' r_sum ?s ?_; (case s => k_dflt walk_at "ev.sq")) | (refine' r_glst ?s ?e ?_; (case s => k_dflt walk_at "ev.sq"); (case e => k_dflt exact rfl))
  | (refine' r_cat ?a ?b ?e ?_; (case a => k_dflt walk_at "ev.hg"); (case b => k_dflt walk_at "ev.hg"); (case e => k_dflt walk_at "ev.sz"))
  | refine' r_for ?_ | refine' r_lc ?_ | refine' r_ilist ?_ | (refine' r_exil ?s ?_; (case s => k_dflt walk_at "ev.sq")) | refine' r_itup ?_ | (refine' r_exit ?s ?_; (case s => k_dflt walk_at "ev.st"))
  | refine' r_irng1 ?_ | refine' r_irng2 ?_ | refine' r_irng3 ?_ | refine' r_izip ?_ | refine' r_izip3 ?_ | refine' r_izip4 ?_ | (refine' r_exz3 ?a ?b ?c ?_; (case a => k_dflt walk_at "ev.sq"); (case b => k_dflt walk_at "ev.sq"); (case c => k_dflt walk_at "ev.sq")) | (refine' r_exz4 ?a ?b ?c ?d ?_; (case a => k_dflt walk_at "ev.sq"); (case b => k_dflt walk_at "ev.sq"); (case c => k_dflt walk_at "ev.sq"); (case d => k_dflt walk_at "ev.sq")) | refine' r_ienum ?_
  | (refine' r_exz ?a ?b ?_; (case a => k_dflt walk_at "ev.sq"); (case b => k_dflt walk_at "ev.sq")) | (refine' r_exen ?a ?_; (case a => k_dflt walk_at "ev.sq"))
  | refine' r_yes ?_ | (refine' r_len ?s ?_; (case s => k_dflt walk_at "ev.sq")) | (refine' r_lenT ?s ?_; (case s => k_dflt walk_at "ev.st")) | refine' r_int1 ?_ | refine' r_int2 ?_ | refine' r_int3 ?_
  | (refine' r_mk ?e ?_; (case e => k_dflt exact Nat.le_of_ble_eq_true rfl))
  | refine' r_chain3 ?_ | refine' r_tru ?_ | (refine' r_truL ?s ?_; (case s => k_dflt walk_at "ev.sq")) | refine' r_bm0 ?_ | refine' r_star ?_ | (refine' r_exstarT ?s ?_; (case s => k_dflt walk_at "ev.st")) | (refine' r_aug ?s ?_; (case s => k_dflt exact rfl)) | refine' r_break ?_ | refine' r_cont ?_ | refine' r_gsl ?_
  | refine' r_make ?_ | refine' r_meth ?_ | refine' r_prop ?_ | refine' r_fld ?_ | refine' r_sfld ?_ | refine' r_next ?_)
local macro_rules | `(tactic| walk_at "ev") => `(tactic| repeat walk_at "ev.1")
local macro_rules | `(tactic| walk_at "ev0") => `(tactic| (dsimp only [cxOf, Cx.nox]; walk_at "ev"))
section
variable {P : Program} {w : World} {K : PySem.W.Frag} {mg : Str → Option Value} {base : Heap}
theorem abs_ltB {x : Int} {n : Nat} (h0 : 0 ≤ x) (h : x < 2 ^ n) : x.natAbs < 2 ^ n := by
  have e : ((2 ^ n : Nat) : Int) = (2 : Int) ^ n := by simp
  omega
theorem Fr.at1 {H H' : Hp} {j : Addr} {o : HO} (f : Fr [j] H H') : Fr [j] H (upd H' j o) := fun x u hx e => by
  rw [upd_ne (fun z => hx (by rw [z]; exact List.mem_cons_self))]
  exact f x u hx e
def sp__law_stirred (K : PySem.W.Frag) : Sp := fun vs H Q _ => ∃ (ls j : Addr) (m : Int) (n : Nat), vs = [.ref j, .int m] ∧ JarAt ls H j (n + 1) ∧ 0 < m ∧ m < 2 ^ 1000 ∧ ∀ v H', 0 ≤ v → v < m → Fr [j] H H' → JarAt ls H' j n → Q (.int v) H'
theorem k__law_stirred (T : Tx fa fn K mg base) : Fk P w K mg base "_law_stirred" ["bag", "wide"] 1 (sp__law_stirred K) s__law_stirred "_law_stirred" := by
  refine T.fk 41 58 (q := "_law_stirred") (st := s__law_stirred) sc__law_stirred (fun _ _ _ _ _ _ us hl => match us, hl with | [_, _], _ => rfl) (fun vs H Q E h => ?_) (fun cdv A outer s H vs Q E hr h => ?_)
  · obtain ⟨ls, j, m, n, rfl, _⟩ := h
    rfl
  · obtain ⟨ls, j, m, n, rfl, ⟨ns, i, b, c, d, hj, hls, nj, hi, jb⟩, m0, m1, k⟩ := h
    have wm := abs_ltB (Int.le_of_lt m0) m1
    refine ⟨_, (pss_cons (ps_set (i := 2) sc__law_stirred.nd rfl (by first | exact Or.inl rfl | exact Or.inr rfl) pe_int)
      (pss_cons (ps_for PassesOwn.never rfl (pi_range1 (by rfl) (T.fr 13) (pa_cons (pe_op op_add pe_int (pe_op op_fdivW (pe_bits (pv 1)) pe_int)) pa_nil)) (pg_name (i := 3) sc__law_stirred.nd rfl (by first | exact Or.inl rfl | exact Or.inr rfl)) (pss_cons (ps_asg (pe_op op_add (pe_ix ix_list (pv 0) pe_int (fun _ _ => rfl)) pe_int) (pg_sub (pv 0) pe_int set_list))
      (pss_cons (ps_set (i := 4) sc__law_stirred.nd rfl (by first | exact Or.inl rfl | exact Or.inr rfl) (pe_op op_add (pe_op op_add (pe_op op_add (pe_op op_powW (pe_ix ix_list (pv 0) pe_int (fun _ _ => rfl)) pe_int) (pe_op op_mulW pe_int (pe_ix ix_list (pv 0) pe_int (fun _ _ => rfl)))) (pe_op op_mulW pe_int (pe_ix ix_list (pv 0) pe_int (fun _ _ => rfl)))) pe_int))
      (pss_cons (ps_asg (pe_op op_mod (pe_callTy call_int1 (by rfl) (T.fr 2) (by decide +kernel) (pa_cons (pv 4) pa_nil)) pe_int) (pg_sub (pv 0) pe_int set_list))
      (pss_one (ps_set (i := 2) sc__law_stirred.nd rfl (by first | exact Or.inl rfl | exact Or.inr rfl) (pe_op op_add (pe_op op_mulW (pv 2) pe_int) (pe_op op_fdivW (pe_ix ix_list (pv 0) pe_int (fun _ _ => rfl)) pe_int))))))))
      (pss_one (ps_ret (pe_op op_mod (pe_callTy call_int1 (by rfl) (T.fr 2) (by decide +kernel) (pa_cons (pv 2) pa_nil)) (pv 1)))))), ?_⟩
    walk_at "ev0"
    have bits : (Builtin.Int.intBits m : Nat) ≤ 1000 := PyProof.Rows.intBits_le wm
    refine ⟨.int m, rfl, m, rfl, ?_⟩
    generalize Builtin.Int.intBits m = B at bits ⊢
    walk_at "ev"
    refine r_I (wide_div (b := 40) (by decide) (by decide) (by decide) (by decide)) ?_
    have dB : 0 ≤ (B : Int) / 27 ∧ (B : Int) / 27 ≤ 37 := ⟨by omega, by omega⟩
    generalize (B : Int) / 27 = D at dB ⊢
    walk_at "ev"
    refine ⟨by omega, by omega, ?_⟩
    have p31 : (2 : Int) ^ 31 = 2147483648 := by decide
    have jc := jb.c1
    have jc0 := jb.c0
    have jd := jb.d0
    have jd1 := jb.d1
    refine for_it (walk_range (lo := 0)) (fun k σ H' => ∃ (fo c' d' : Int) (u3 u4 : Option V), σ = [some (.ref j), some (.int m), some (.int fo), u3, u4] ∧ Fr [j] H H' ∧ H' j = some (BagO ls i b c' d') ∧ (0 ≤ c' ∧ c' < 2147483648) ∧ (0 ≤ d' ∧ d' ≤ d + (k : Int)) ∧ 0 ≤ fo ∧ fo < (2 : Int) ^ (28 * k + 1)) ⟨0, c, d, none, none, rfl, Fr.refl _, hj, ⟨jc0, by omega⟩, ⟨jd, by omega⟩, by decide, by decide⟩ (fun _ _ _ _ _ => trivial) (fun q x σ H1 H1' hq p y => ?_) (fun σ H1 p => ?_)
    · obtain ⟨fo, c', d', u3, u4, rfl, f1, hj1, hc, hd, f0, flt⟩ := p
      obtain ⟨rfl, rfl⟩ := y
      have hq' : q < 38 := by omega
      have pw : (2 : Int) ^ (28 * (q + 1) + 1) = (2 : Int) ^ (28 * q + 1) * 268435456 := by
        rw [show 28 * (q + 1) + 1 = 28 * q + 1 + 28 by omega, Int.pow_add]
        rfl
      have fb : fo.natAbs < 2 ^ 1100 := by
        have e : (2 : Int) ^ (28 * q + 1) ≤ 2 ^ 1100 := (show ∀ q, q < 38 → (2 : Int) ^ (28 * q + 1) ≤ 2 ^ 1100 by decide +kernel) q hq'
        exact abs_ltB f0 (by omega)
      walk_at "ev"
      refine r_I (powW (b := 40) (by decide) (by decide) (natAbs_lt (by omega) (by omega)) (by decide) (by decide)) ?_
      walk_at "ev"
      refine r_I (wide_mul (a := 30) (b := 40) (by decide) (natAbs_lt (by omega) (by omega)) (by decide) (by decide) (by decide)) ?_
      walk_at "ev"
      refine r_I (wide_mul (a := 30) (b := 40) (by decide) (natAbs_lt (by omega) (by omega)) (by decide) (by decide) (by decide)) ?_
      walk_at "ev"
      refine r_I (by decide) ?_
      generalize hx : (c' ^ Int.toNat 3 + 69621 * c' + 1031 * (d' + 1) + 1) % 2147483647 = x
      have x0 : 0 ≤ x := by
        rw [← hx]
        exact Int.emod_nonneg _ (by decide)
      have x1 : x < 2147483647 := by
        rw [← hx]
        exact Int.emod_lt_of_pos _ (by decide)
      walk_at "ev"
      refine r_I (wide_mul (a := 1100) (b := 30) fb (by decide) (by decide) (by decide) (by decide)) ?_
      walk_at "ev"
      refine r_I (wide_div (b := 40) (by decide) (by decide) (by decide) (by decide)) ?_
      have xd : 0 ≤ x / 16 ∧ x / 16 < 134217728 := ⟨by omega, by omega⟩
      generalize x / 16 = y at xd ⊢
      walk_at "ev"
      exact ⟨_, _, _, _, _, rfl, f1.at1.at1, upd_same, ⟨x0, by omega⟩, ⟨by omega, by omega⟩, by omega, by rw [pw]; omega⟩
    obtain ⟨fo, c', d', u3, u4, rfl, f1, hj1, hc, hd, f0, flt⟩ := p
    walk_at "ev"
    refine r_I m0 ?_
    exact k _ _ (Int.emod_nonneg _ (by omega)) (Int.emod_lt_of_pos _ m0) f1 ⟨ns, i, b, c', d', hj1, f1 _ _ (by simpa using nj) hls, nj, hi, jb.len, jb.all, jb.b0, hc.1, by omega, hd.1, by omega⟩
def sp__law_draw (K : PySem.W.Frag) : Sp := fun vs H Q _ => ∃ (ls j : Addr) (m : Int) (n : Nat), vs = [.ref j, .int m] ∧ JarAt ls H j (n + 1) ∧ 0 < m ∧ m < 2 ^ 1000 ∧ ∀ v H', 0 ≤ v → v < m → Fr [j] H H' → JarAt ls H' j n → Q (.int v) H'
theorem k__law_draw (T : Tx fa fn K mg base) : Fk P w K mg base "_law_draw" ["bag", "wide"] 3 (sp__law_draw K) s__law_draw "_law_draw" := by
  refine T.fk 42 59 (q := "_law_draw") (st := s__law_draw) sc__law_draw (fun _ _ _ _ _ _ us hl => match us, hl with | [_, _], _ => rfl) (fun vs H Q E h => ?_) (fun cdv A outer s H vs Q E hr h => ?_)
  · obtain ⟨ls, j, m, n, rfl, _⟩ := h
    rfl
  · obtain ⟨ls, j, m, n, rfl, ⟨ns, i, b, c, d, hj, hls, nj, hi, jb⟩, m0, m1, k⟩ := h
    have wm := abs_ltB (Int.le_of_lt m0) m1
    have hln : (ns.map V.int).length = ns.length := List.length_map _
    have jc := jb.c1
    have jc0 := jb.c0
    have jd := jb.d0
    have jd1 := jb.d1
    have b0 := jb.b0
    refine ⟨_, (pss_cons (ps_if (PW.pt (pw_and (pt_cmpR op_eq (pe_ix ix_list (pv 0) pe_int (fun _ _ => rfl)) pe_int (nomark _)) (pw_and1 (pt_cmpR op_lt (pe_ix ix_list (pv 0) pe_int (fun _ _ => rfl)) (pe_callB call_len_seq (by rfl) (T.fr 6) (by decide +kernel) (pa_cons (pe_ix ix_list (pv 0) pe_int (fun _ _ => rfl)) pa_nil)) (nomark _))))) (pss_cons (ps_asg (pe_ix ix_list (pe_ix ix_list (pv 0) pe_int (fun _ _ => rfl)) (pe_ix ix_list (pv 0) pe_int (fun _ _ => rfl)) (fun _ _ => rfl)) (pg_sub (pv 0) pe_int set_list))
      (pss_one (ps_asg (pe_op op_add (pe_ix ix_list (pv 0) pe_int (fun _ _ => rfl)) pe_int) (pg_sub (pv 0) pe_int set_list)))) (pss_one (ps_if (pt_cmpR op_eq (pe_ix ix_list (pv 0) pe_int (fun _ _ => rfl)) pe_int (nomark _)) (pss_one (ps_ret (pe_f (k__law_stirred T) hr (pa_cons (pv 0) (pa_cons (pv 1) pa_nil))))) pss_nil)))
      (pss_cons (ps_set (i := 2) sc__law_draw.nd rfl (by first | exact Or.inl rfl | exact Or.inr rfl) (pe_op op_mod (pe_callTy call_int1 (by rfl) (T.fr 2) (by decide +kernel) (pa_cons (pe_ix ix_list (pv 0) pe_int (fun _ _ => rfl)) pa_nil)) (pv 1)))
      (pss_cons (ps_asg (pe_op op_fdivW (pe_ix ix_list (pv 0) pe_int (fun _ _ => rfl)) (pv 1)) (pg_sub (pv 0) pe_int set_list))
      (pss_one (ps_ret (pv 2)))))), ?_⟩
    walk_at "ev0"
    have ends : ∀ (b' : Int) (i' : Nat) (Hx : Hp), 0 ≤ b' → i' ≤ ns.length → Fr [j] H Hx → Hx j = some (BagO ls i' (b' / m) c d) → Q (.int (b' % m)) Hx := fun b' i' Hx hb' hi' fx ex =>
      k _ _ (Int.emod_nonneg _ (by omega)) (Int.emod_lt_of_pos _ m0) fx ⟨ns, i', b' / m, c, d, ex, fx _ _ (by simpa using nj) hls, nj, hi', jb.len, jb.all, Int.ediv_nonneg hb' (by omega), jc0, jc, jd, by omega⟩
    have stir : b = 0 → sp__law_stirred K [V.ref j, V.int m] H Q E0 := fun _ => ⟨ls, j, m, n, rfl, ⟨ns, i, b, c, d, hj, hls, nj, hi, jb⟩, m0, m1, k⟩
    refine r_ite (fun h0 => ?_) (fun h0 => ?_)
    · have hb0 : b = 0 := by injection h0
      walk_at "ev"
      refine r_ite (fun h1 => ?_) (fun h1 => ?_)
      · have lt : i < ns.length := by omega
        have v0 := jb.all _ (nth_mem lt)
        walk_at "ev"
        refine r_at (atI_nat (at_nth lt)) ?_
        generalize nth ns i = v at v0 ⊢
        walk_at "ev"
        refine r_I m0 ?_
        walk_at "ev"
        refine r_I (wide_div m0 wm (by decide) (by decide)) ?_
        walk_at "ev"
        exact ends v (i + 1) _ v0 lt (Fr.refl H).at1.at1.at1 upd_same
      · walk_at "ev"
        rw [decide_eq_true (show V.int b = V.int 0 by rw [hb0])]
        walk_at "ev"
        exact stir hb0
    · walk_at "ev"
      rw [decide_eq_false h0]
      walk_at "ev"
      refine r_I m0 ?_
      walk_at "ev"
      refine r_I (wide_div m0 wm (by decide) (by decide)) ?_
      walk_at "ev"
      exact ends b i _ b0 hi (Fr.refl H).at1 upd_same
theorem cut_63 {ns : List Int} (h : ns.length ≤ 63) : cutV (ns.map V.int) none (some 63) = ns.map V.int := by
  show cutV (ns.map V.int) none (some ((63 : Nat) : Int)) = _
  unfold cutV
  rw [HT.sIx_nat, HT.sIx_none, List.drop_zero, List.length_map, Nat.min_eq_right h]
  exact List.take_of_length_le (by rw [List.length_map]; omega)
def sp__law_bag (K : PySem.W.Frag) : Sp := fun vs H Q _ => ∃ (a : Addr) (ns : List Int), vs = [.ref a] ∧ SqL K H a (ns.map V.int) ∧ ns.length ≤ 63 ∧ ∀ ls p H', H p = none → Fr [] H H' → JarAt ls H' p 999000 → Q (.ref p) H'
theorem k__law_bag (T : Tx fa fn K mg base) : Fk P w K mg base "_law_bag" ["script"] 1 (sp__law_bag K) s__law_bag "_law_bag" := by
  refine T.fk 40 57 (q := "_law_bag") (st := s__law_bag) sc__law_bag (fun _ _ _ _ _ _ us hl => match us, hl with | [_], _ => rfl) (fun vs H Q E h => ?_) (fun cdv A outer s H vs Q E hr h => ?_)
  · obtain ⟨a, ns, rfl, _⟩ := h
    rfl
  · obtain ⟨a, ns, rfl, ha, hn, k⟩ := h
    have hln : (ns.map V.int).length = ns.length := List.length_map _
    refine ⟨_, (pss_cons (ps_set (i := 1) sc__law_bag.nd rfl (by first | exact Or.inl rfl | exact Or.inr rfl) pe_int)
      (pss_cons (ps_for PassesOwn.never rfl (pi_list (pe_slice sl_list (pv 0) po_none (po_some pe_int))) (pg_name (i := 2) sc__law_bag.nd rfl (by first | exact Or.inl rfl | exact Or.inr rfl)) (pss_one (ps_set (i := 1) sc__law_bag.nd rfl (by first | exact Or.inl rfl | exact Or.inr rfl) (pe_op op_mod (pe_callTy call_int1 (by rfl) (T.fr 2) (by decide +kernel) (pa_cons (pe_op op_add (pe_op op_add (pe_op op_mulW (pv 1) pe_int) (pe_op op_mod (pe_callTy call_int1 (by rfl) (T.fr 2) (by decide +kernel) (pa_cons (pv 2) pa_nil)) pe_int)) pe_int) pa_nil)) pe_int))))
      (pss_one (ps_ret (pe_lst (pa_cons (pe_lc (own := [("cell", 2)]) (tt := tYes) (te := (tOp (rI (fun _ j => 0 < j) fun i j => .int (i % j)) (tCB (fun xs H Q => (∃ i : Int, xs = [.int i] ∧ Q (.int i) H) ∨ ∃ k : Bool, xs = [.bl k] ∧ Q (.int (if k then 1 else 0)) H) (tCons (tCB (fun xs H Q => ∃ i : Int, xs = [.int i] ∧ Q (.int (if i < 0 then -i else i)) H) (tCons (tVar 2) tNil)) tNil)) (tOp (rI CPowW fun i j => .int (i ^ j.toNat)) (tOp (rI CPowW fun i j => .int (i ^ j.toNat)) (tC (.int 10)) (tC (.int 60))) (tC (.int 10))))) rfl sc__law_bag.nd (pi_list (pe_slice sl_list (pv 0) po_none (po_some pe_int))) (blkOk_by (N := ["script", "stir", "cell"]) (sc := defScope s__law_bag) (by decide +kernel)) (fun _ _ _ _ _ => (pg_name (i := 2) sc__law_bag.nd rfl (by first | exact Or.inl rfl | exact Or.inr rfl))) (fun _ _ _ _ _ => pts_nil) (fun _ _ _ _ _ => (pe_op op_mod (pe_callTy call_int1 (by rfl) (T.fr 2) (by decide +kernel) (pa_cons (pe_callB call_abs (by rfl) (T.fr 56) (by decide +kernel) (pa_cons (pv 2) pa_nil)) pa_nil)) (pe_op op_powW (pe_op op_powW pe_int pe_int) pe_int)))) (pa_cons pe_int (pa_cons pe_int (pa_cons (pv 1) (pa_cons pe_int pa_nil)))))))))), ?_⟩
    walk_at "ev0"
    rw [cut_63 hn]
    intro s1 k1
    have z1 := (Z.start0 H).alloc (.lst (ns.map V.int)) k1
    have g1 := z1.get (.head _)
    have ha1 := z1.fr0 (by simp)
    refine ⟨s1, rfl, ⟨_, SqL.of g1⟩, ?_⟩
    refine for_it (walk_list (xs := ns.map V.int)) (fun i σ H' => ∃ (st : Int) (u2 : Option V), σ = [some (.ref a), some (.int st), u2] ∧ H' = upd H s1 (.lst (ns.map V.int)) ∧ 0 ≤ st ∧ st < 2147483648) ⟨141, none, rfl, rfl, by decide, by decide⟩ (fun i σ H' _ pv => ?_) (fun i x σ H1 H1' hi pv y => ?_) (fun σ H1 pv => ?_)
    · obtain ⟨_, _, _, rfl, _⟩ := pv
      exact SqL.of g1
    · obtain ⟨st, u2, rfl, rfl, s0, s9⟩ := pv
      obtain ⟨rfl, hx⟩ := y
      obtain rfl := nth_at hx
      generalize nth ns i = x at *
      walk_at "ev"
      refine r_I (wide_mul (a := 40) (b := 30) (natAbs_lt (by omega) (by omega)) (by decide) (by decide) (by decide) (by decide)) ?_
      walk_at "ev"
      refine r_I (by decide) ?_
      walk_at "ev"
      refine r_I (by decide) ?_
      walk_at "ev"
      refine ⟨_, _, rfl, rfl, Int.emod_nonneg _ (by decide), Int.lt_trans (Int.emod_lt_of_pos _ (by decide)) (by decide)⟩
    obtain ⟨st, u2, rfl, rfl, s0, s9⟩ := pv
    have ha2 := ha1.sql ha (fun z => nomatch z)
    walk_at "ev"
    rw [cut_63 hn]
    intro s2 k2
    have z2 := z1.alloc (.lst (ns.map V.int)) k2
    have g2 := z2.get (.head _)
    walk_at "ev"
    refine lc_map (ns := ns) (fun x => (if x < 0 then -x else x) % ((10 : Int) ^ Int.toNat 60) ^ Int.toNat 10) (SqL.of g2) (by omega) (fun _ => rfl) (fun i H' R hi e kR => ?_) (fun D H1 hD e hD' => ?_)
    · have p60 : CPowW (10 ^ Int.toNat 60) 10 := powW (b := 200) (by decide) (by decide) (by decide +kernel) (by decide) (by decide)
      have p0 : (0 : Int) < ((10 : Int) ^ Int.toNat 60) ^ Int.toNat 10 := by decide +kernel
      walk_at "ev"
      refine r_I p60 ?_
      walk_at "ev"
      refine r_I p0 ?_
      walk_at "ev"
      exact kR _ (Fr.refl _)
    have z3 := z2.comp e hD hD'
    walk_at "ev"
    intro p hp
    have p0 : (0 : Int) < ((10 : Int) ^ Int.toNat 60) ^ Int.toNat 10 := by decide +kernel
    have z4 := z3.alloc (BagO D 0 0 st 0) hp
    refine k D p _ (z3.none hp) (z4.fr0 (by simp)) ⟨ns.map fun x => (if x < 0 then -x else x) % ((10 : Int) ^ Int.toNat 60) ^ Int.toNat 10, 0, 0, st, 0, upd_same, z4.get (.tail _ (.head _)), ?_, Nat.zero_le _, by rw [List.length_map]; exact hn, fun x hx => ?_, by decide, s0, by omega, by decide, by decide⟩
    · exact z4.ne 0 1 rfl rfl (by decide)
    · obtain ⟨y, _, rfl⟩ := List.mem_map.mp hx
      exact Int.emod_nonneg _ (by omega)
end
set_option Elab.async false
set_option linter.all false
set_option maxRecDepth 100000
set_option maxHeartbeats 4000000
local macro_rules | `(tactic| walk_at "ev.1") => `(tactic| with_reducible first
  | refine' r_seq ?_ | refine' r_asg ?_ | refine' r_op ?_ | (refine' r_var ?v ?_; (case v => k_dflt exact rfl)) | refine' r_c ?_ | refine' r_name ?_ | refine' r_I0 ?_
  | (refine' r_I ?c ?_; (case c => k_dflt exact pow10 (by decide)))
  | refine' r_cons ?_ | refine' r_nil ?_ | refine' r_call ?_ | refine' r_drop ?_ | refine' r_ret ?_ | refine' r_ifs ?_ | refine' r_test ?_ | refine' r_exif ?_ | refine' r_un ?_ | refine' r_U ?_
  | (refine' r_ixL ?s ?_; (case s => k_dflt walk_at "ev.sq")) | (refine' r_ixT ?s ?_; (case s => k_dflt walk_at "ev.st")) | (refine' r_at ?e ?_; (case e => k_dflt exact rfl)) | (refine' r_ixn ?e ?_; (case e => k_dflt exact rfl)) | (refine' r_ixST (r_ixT ?s ?_); (case s => k_dflt walk_at "ev.st")) | (refine' r_ixSL (r_ixL ?s ?_); (case s => k_dflt walk_at "ev.sq"))
  | refine' r_cb ?_ | refine' r_B ?_ | refine' r_and ?_ | refine' r_or ?_ | refine' r_not ?_ | refine' r_andV ?_ | refine' r_orV ?_ | refine' r_notV ?_ | refine' r_if ?_
  | refine' iteT ?_ | refine' iteF ?_ | refine' iteNT ?_ | refine' iteNF ?_ | refine' r_chain ?_
  | (refine' r_gtup ?s ?e ?_; (case s => k_dflt walk_at "ev.st"); (case e => k_dflt exact rfl)) | refine' r_gcons ?_ | refine' r_gnil ?_ | refine' r_gsub ?_
  | (refine' r_setL ?s ?_; (case s => k_dflt walk_at "ev.hg")) | refine' r_tup ?_ | refine' r_lst ?_
  | refine' r_bm ?_ | (refine' r_tyL ?s ?_; (case s => k_dflt walk_at "ev.hg")) | (refine' r_app ?s ?e ?_; (case s => k_dflt walk_at "ev.hg"); (case e => k_dflt walk_at "ev.szl"))
  | refine' r_sl ?_ | refine' r_part ?_ | refine' r_exint ?_ | refine' r_nopart ?_ | (refine' r_slL ?s ?_; (case s => k_dflt walk_at "ev.sq")) | refine' r_revL ?_ | (refine' r_exrev ?s ?_; (case s => k_dflt walk_at "ev.sq"))
  | (refine' r_eq ?e ?_; (case e => k_dflt exact rfl)) | (refine' r_ne ?e ?_; (case e => k_dflt exact rfl)) | refine' r_par ?_ | refine' r_expar ?_ | refine' r_par3 ?_ | refine' r_expar3 ?_ | refine' r_methK ?_ | refine' r_callKw ?_ | refine' r_ckw ?_ | refine' r_zipL ?_ | refine' r_augS ?_ | refine' r_ipI ?_ | refine' r_ienumS ?_ | (refine' r_sum ?s ?_; (case s => k_dflt walk_at "ev.sq")) | (refine' r_glst ?s ?e ?_; (case s => k_dflt walk_at "ev.sq"); (case e => k_dflt exact rfl))
  | (refine' r_cat ?a ?b ?e ?_; (case a => k_dflt walk_at "ev.hg"); (case b => k_dflt walk_at "ev.hg"); (case e => k_dflt walk_at "ev.sz"))
  | refine' r_for ?_ | refine' r_lc ?_ | refine' r_ilist ?_ | (refine' r_exil ?s ?_; (case s => k_dflt walk_at "ev.sq")) | refine' r_itup ?_ | (refine' r_exit ?s ?_; (case s => k_dflt walk_at "ev.st"))
  | refine' r_irng1 ?_ | refine' r_irng2 ?_ | refine' r_irng3 ?_ | refine' r_izip ?_ | refine' r_izip3 ?_ | refine' r_izip4 ?_ | (refine' r_exz3 ?a ?b ?c ?_; (case a => k_dflt walk_at "ev.sq"); (case b => k_dflt walk_at "ev.sq"); (case c => k_dflt walk_at "ev.sq")) | (refine' r_exz4 ?a ?b ?c ?d ?_; (case a => k_dflt walk_at "ev.sq"); (case b => k_dflt walk_at "ev.sq"); (case c => k_dflt walk_at "ev.sq"); (case d => k_dflt walk_at "ev.sq")) | refine' r_ienum ?_
  | (refine' r_exz ?a ?b ?_; (case a => k_dflt walk_at "ev.sq"); (case b => k_dflt walk_at "ev.sq")) | (refine' r_exen ?a ?_; (case a => k_dflt walk_at "ev.sq"))
  | refine' r_yes ?_ | (refine' r_len ?s ?_; (case s => k_dflt walk_at "ev.sq")) | (refine' r_lenT ?s ?_; (case s => k_dflt walk_at "ev.st")) | refine' r_int1 ?_ | refine' r_int2 ?_ | refine' r_int3 ?_
  | (refine' r_mk ?e ?_; (case e => k_dflt exact Nat.le_of_ble_eq_true rfl))
  | refine' r_tru ?_ | (refine' r_truL ?s ?_; (case s => k_dflt walk_at "ev.sq")) | refine' r_bm0 ?_ | refine' r_star ?_ | (refine' r_exstarT ?s ?_; (case s => k_dflt walk_at "ev.st")) | (refine' r_aug ?s ?_; (case s => k_dflt exact rfl)) | refine' r_break ?_ | refine' r_cont ?_ | refine' r_gsl ?_
  | refine' r_make ?_ | refine' r_meth ?_ | refine' r_prop ?_ | refine' r_fld ?_ | refine' r_sfld ?_ | refine' r_next ?_)
section
variable {P : Program} {w : World} {K : PySem.W.Frag} {mg : Str → Option Value} {base : Heap}
def sp_is_whole (K : PySem.W.Frag) : Sp := fun vs H Q _ => ∃ v t b1 b2, vs = [v] ∧ TyX K H v t ∧ PySem.W.kitOne K t (.type "int") = some b1 ∧ PySem.W.kitOne K t (.type "bool") = some b2 ∧ Q (.bl (b1 && !b2)) H
theorem k_is_whole (T : Tx fa fn K mg base) : Fk P w K mg base "is_whole" ["thing"] 1 (sp_is_whole K) s_is_whole "is_whole" := by
  refine T.fk 0 3 (q := "is_whole") (st := s_is_whole) sc_is_whole (fun _ _ _ _ _ _ us hl => match us, hl with | [_], _ => rfl) (fun vs H Q E h => ?_) (fun cdv A outer s H vs Q E hr h => ?_)
  · obtain ⟨v, t, b1, b2, rfl, _⟩ := h
    rfl
  · obtain ⟨v, t, b1, b2, rfl, ty, h1, h2, k⟩ := h
    refine ⟨_, (pss_one (ps_ret (pe_and (pe_callB call_isi (by rfl) (T.fr 0) (by decide +kernel) (pa_cons (pv 0) (pa_cons (pe_bltn (v := .ty "int") (u := .type "int") (by rfl) (T.fr 2) (by decide +kernel) rfl) pa_nil))) (pe_one (pe_not (pe_callB call_isi (by rfl) (T.fr 0) (by decide +kernel) (pa_cons (pv 0) (pa_cons (pe_bltn (v := .ty "bool") (u := .type "bool") (by rfl) (T.fr 1) (by decide +kernel) rfl) pa_nil)))))))), ?_⟩
    walk_at "ev0"
    refine r_isi (.ty _) ty h1 ?_
    walk_at "ev"
    cases b1 with
    | false => exact iteF k
    | true =>
      refine iteT ?_
      walk_at "ev"
      refine r_isi (.ty _) ty h2 ?_
      walk_at "ev"
      exact k
theorem whole_int {K : PySem.W.Frag} {H : Hp} {Q : VK} {i : Int} (k : Q (.bl true) H) : sp_is_whole K ([V.int i] ++ []) H Q E0 :=
  ⟨_, _, true, false, rfl, .base (.int i), kit_ty (by decide +kernel), kit_ty (by decide +kernel), k⟩
def sp_is_whole_list (K : PySem.W.Frag) : Sp := fun vs H Q _ => ∃ (a : Addr) (ns : List Int), vs = [.ref a] ∧ H a = some (.lst (ns.map V.int)) ∧ (1 ≤ ns.length ∧ ns.length ≤ 200) ∧ ∀ H', Fr [] H H' → Q (.bl true) H'
theorem k_is_whole_list (T : Tx fa fn K mg base) : Fk P w K mg base "is_whole_list" ["thing"] 2 (sp_is_whole_list K) s_is_whole_list "is_whole_list" := by
  refine T.fk 2 9 (q := "is_whole_list") (st := s_is_whole_list) sc_is_whole_list (fun _ _ _ _ _ _ us hl => match us, hl with | [_], _ => rfl) (fun vs H Q E h => ?_) (fun cdv A outer s H vs Q E hr h => ?_)
  · obtain ⟨a, ns, rfl, _⟩ := h
    rfl
  · obtain ⟨a, ns, rfl, ha, hn, k⟩ := h
    have hl : (ns.map V.int).length = ns.length := List.length_map _
    refine ⟨_, (pss_cons (ps_if (PW.pt (pw_or (pt_not (pt_val (pe_callB call_isi (by rfl) (T.fr 0) (by decide +kernel) (pa_cons (pv 0) (pa_cons (pe_bltn (v := .ty "list") (u := .type "list") (by rfl) (T.fr 8) (by decide +kernel) rfl) pa_nil))))) (pw_or1 (pt_not (pt_chain op_le op_le pe_int (pe_callB call_len_seq (by rfl) (T.fr 6) (by decide +kernel) (pa_cons (pv 0) pa_nil)) (pe_globI (T.int 7))))))) (pss_one (ps_ret pe_bl)) pss_nil)
      (pss_one (ps_ret (pe_callB (cr_all rfl) (by rfl) (T.fr 5) (by decide +kernel) (pa_cons (pe_lc (own := [("entry", 1)]) (tt := tYes) (te := (tCall (sp_is_whole K) [] E0 (tCons (tVar 1) tNil))) rfl sc_is_whole_list.nd (pi_list (pv 0)) (blkOk_by (N := ["thing", "entry"]) (sc := defScope s_is_whole_list) (by decide +kernel)) (fun _ _ _ _ _ => (pg_name (i := 1) sc_is_whole_list.nd rfl (by first | exact Or.inl rfl | exact Or.inr rfl))) (fun _ _ _ _ _ => pts_nil) (fun _ _ _ _ _ => (pe_f (k_is_whole T) hr (pa_cons (pv 1) pa_nil)))) pa_nil))))), ?_⟩
    walk_at "ev0"
    refine r_isi (.ty _) (.base (.lst ha)) (kit_ty (b := "list") (r := true) (by decide +kernel)) ?_
    walk_at "ev"
    refine r_iteY (by omega) ?_
    walk_at "ev"
    refine r_iteNY (by omega) ?_
    walk_at "ev"
    refine lc_pure (walk_list (xs := ns.map V.int)) (fun _ => .bl true) (by omega) (fun H' e => e.sql (SqL.of ha) (fun z => nomatch z)) (fun i H' x H'' y => by rw [y.1]; exact Fr.refl _) (fun i x H' H'' R hi e y kR => ?_) (fun D H' hD e hD' => ?_)
    · obtain ⟨rfl, hx⟩ := y
      rw [nth_at hx]
      walk_at "ev"
      refine ⟨rfl, ?_⟩
      walk_at "ev"
      exact whole_int (kR _ (Fr.refl _))
    · walk_at "ev"
      refine r_all (bs := (List.range (ns.map V.int).length).map fun _ => true) (SqL.of (by rw [List.map_map]; exact hD')) ?_
      have e2 : ((List.range (ns.map V.int).length).map fun _ => true).all id = true := by simp
      rw [e2]
      exact k H' e
def sp_is_at_most (K : PySem.W.Frag) : Sp := fun vs H Q _ => ∃ (a b : Addr) (ns ms : List Int), vs = [.ref a, .ref b] ∧ H a = some (.lst (ns.map V.int)) ∧ H b = some (.lst (ms.map V.int)) ∧ ns.length ≤ 10000 ∧ ∀ H', Fr [] H H' → Q (.bl (leAll ns ms)) H'
theorem k_is_at_most (T : Tx fa fn K mg base) : Fk P w K mg base "is_at_most" ["row", "other"] 1 (sp_is_at_most K) s_is_at_most "is_at_most" := by
  refine T.fk 3 11 (q := "is_at_most") (st := s_is_at_most) sc_is_at_most (fun _ _ _ _ _ _ us hl => match us, hl with | [_, _], _ => rfl) (fun vs H Q E h => ?_) (fun cdv A outer s H vs Q E hr h => ?_)
  · obtain ⟨a, b, ns, ms, rfl, _⟩ := h
    rfl
  · obtain ⟨a, b, ns, ms, rfl, ha, hb, hn, k⟩ := h
    refine ⟨_, (pss_one (ps_ret (pe_callB (cr_all rfl) (by rfl) (T.fr 5) (by decide +kernel) (pa_cons (pe_lc (own := [("one", 2), ("two", 3)]) (tt := tYes) (g := (gTup K 2 (gCons (gName 2) (gCons (gName 3) gNil)))) (te := (tOp (rI0 fun i j => .bl (decide (i ≤ j))) (tVar 2) (tVar 3))) rfl sc_is_at_most.nd (pi_zip (by rfl) (T.fr 10) (pa_cons (pv 0) (pa_cons (pv 1) pa_nil))) (blkOk_by (N := ["row", "other", "one", "two"]) (sc := defScope s_is_at_most) (by decide +kernel)) (fun _ _ _ _ _ => (pg_tup rfl (pgs_cons (pg_name (i := 2) sc_is_at_most.nd rfl (by first | exact Or.inl rfl | exact Or.inr rfl)) (pgs_cons (pg_name (i := 3) sc_is_at_most.nd rfl (by first | exact Or.inl rfl | exact Or.inr rfl)) pgs_nil)))) (fun _ _ _ _ _ => pts_nil) (fun _ _ _ _ _ => (pe_cmpR op_le (pv 2) (pv 3) (nomark _)))) pa_nil)))), ?_⟩
    walk_at "ev0"
    refine lc_pure (walk_zip (xs := ns.map V.int) (ys := ms.map V.int) (n := min ns.length ms.length) (by simp)) (fun i => .bl (decide (nth ns i ≤ nth ms i))) (by omega) (fun H' e => ⟨e.sql (SqL.of ha) (fun z => nomatch z), e.sql (SqL.of hb) (fun z => nomatch z)⟩)
      (fun i H' x H'' y => by obtain ⟨T, x1, x2, _, h0, rfl, _⟩ := y; exact (Fr.refl _).new h0) (fun i x H' H'' R hi e y kR => ?_) (fun D H' hD e hD' => ?_)
    · obtain ⟨T, x1, x2, rfl, h0, rfl, g1, g2⟩ := y
      obtain rfl := nth_at g1
      obtain rfl := nth_at g2
      have hT : SqT K (upd H' T (.tup [V.int (nth ns i), V.int (nth ms i)])) T [V.int (nth ns i), V.int (nth ms i)] := SqT.of upd_same
      walk_at "ev"
      refine ⟨rfl, ?_⟩
      walk_at "ev"
      exact kR _ (Fr.refl _)
    · walk_at "ev"
      refine r_all (bs := (List.range (min ns.length ms.length)).map fun i => decide (nth ns i ≤ nth ms i)) (SqL.of (by rw [List.map_map]; exact hD')) ?_
      have e2 : ((List.range (min ns.length ms.length)).map fun i => decide (nth ns i ≤ nth ms i)).all id = leAll ns ms := by
        rw [List.all_map]
        rfl
      rw [e2]
      exact k H' e
end
structure PD where
  L : List Int
  U : List Int
  A : List Int
  B : List Int
deriving DecidableEq
structure PD.Ok (d : PD) : Prop where
  one : 1 ≤ d.L.length
  most : d.L.length ≤ 200
  lU : d.U.length = d.L.length
  lA : d.A.length = d.L.length
  lB : d.B.length = d.L.length
  lu : ∀ i, i < d.L.length → nth d.L i ≤ nth d.U i
  ab : ∀ i, i < d.L.length → nth d.A i ≤ nth d.B i
  tot : nth d.L (d.L.length - 1) = nth d.U (d.L.length - 1)
def flds (l1 l2 l3 l4 : Addr) : List (Str × V) := putF "_most" (.ref l4) (putF "_least" (.ref l3) (putF "_high" (.ref l2) (putF "_low" (.ref l1) [])))
theorem flds_low (l1 l2 l3 l4 : Addr) : (flds l1 l2 l3 l4).lookup ("_low" : Str) = some (.ref l1) := by
  unfold flds
  rw [lookup_putF, if_neg (by decide +kernel), lookup_putF, if_neg (by decide +kernel), lookup_putF, if_neg (by decide +kernel), lookup_putF, if_pos rfl]
theorem flds_high (l1 l2 l3 l4 : Addr) : (flds l1 l2 l3 l4).lookup ("_high" : Str) = some (.ref l2) := by
  unfold flds
  rw [lookup_putF, if_neg (by decide +kernel), lookup_putF, if_neg (by decide +kernel), lookup_putF, if_pos rfl]
theorem flds_least (l1 l2 l3 l4 : Addr) : (flds l1 l2 l3 l4).lookup ("_least" : Str) = some (.ref l3) := by
  unfold flds
  rw [lookup_putF, if_neg (by decide +kernel), lookup_putF, if_pos rfl]
theorem flds_most (l1 l2 l3 l4 : Addr) : (flds l1 l2 l3 l4).lookup ("_most" : Str) = some (.ref l4) := by
  unfold flds
  rw [lookup_putF, if_pos rfl]
/-- a plan with these lists stands at p, apart from what J names -/
structure PlanAt (K : PySem.W.Frag) (J : List Addr) (H : Hp) (p : Addr) (d : PD) : Prop where
  ex : ∃ dx l1 l2 l3 l4, H p = some (.ins (He.ga K "Plan") dx (flds l1 l2 l3 l4)) ∧ (H l1 = some (.lst (d.L.map V.int)) ∧ H l2 = some (.lst (d.U.map V.int)) ∧ H l3 = some (.lst (d.A.map V.int)) ∧ H l4 = some (.lst (d.B.map V.int))) ∧
    (p ∉ J ∧ l1 ∉ J ∧ l2 ∉ J ∧ l3 ∉ J ∧ l4 ∉ J)
theorem PlanAt.mono {K : PySem.W.Frag} {J : List Addr} {H H' : Hp} {p : Addr} {d : PD} (h : PlanAt K J H p d) (f : Fr J H H') : PlanAt K J H' p d := by
  obtain ⟨dx, l1, l2, l3, l4, h0, ⟨h1, h2, h3, h4⟩, n0, n1, n2, n3, n4⟩ := h.ex
  exact ⟨dx, l1, l2, l3, l4, f _ _ n0 h0, ⟨f _ _ n1 h1, f _ _ n2 h2, f _ _ n3 h3, f _ _ n4 h4⟩, n0, n1, n2, n3, n4⟩
theorem PlanAt.nil {K : PySem.W.Frag} {J : List Addr} {H : Hp} {p : Addr} {d : PD} (h : PlanAt K J H p d) : PlanAt K [] H p d := by
  obtain ⟨dx, l1, l2, l3, l4, h0, h1, _⟩ := h.ex
  exact ⟨dx, l1, l2, l3, l4, h0, h1, (fun z => nomatch z), (fun z => nomatch z), (fun z => nomatch z), (fun z => nomatch z), fun z => nomatch z⟩
/-- a new plan -/
def NewP (K : PySem.W.Frag) (H H' : Hp) (p : Addr) (d : PD) : Prop := H p = none ∧ ∀ J, (∀ j ∈ J, ∃ o, H j = some o) → PlanAt K J H' p d
theorem NewP.at {K : PySem.W.Frag} {H H' : Hp} {p : Addr} {d : PD} (h : NewP K H H' p d) : PlanAt K [] H' p d := h.2 [] fun _ z => nomatch z
theorem NewP.at1 {K : PySem.W.Frag} {H H' : Hp} {p j : Addr} {o : HO} {d : PD} (h : NewP K H H' p d) (hj : H j = some o) : PlanAt K [j] H' p d := h.2 [j] fun x m => by
  rcases List.mem_cons.mp m with e | m
  · rw [e]
    exact ⟨o, hj⟩
  · cases m
theorem NewP.fwd {K : PySem.W.Frag} {H H1 H2 : Hp} {p : Addr} {d : PD} (h : NewP K H1 H2 p d) (f : Fr [] H H1) : NewP K H H2 p d := by
  refine ⟨?_, fun J hJ => h.2 J fun j hj => ?_⟩
  · cases e : H p with
    | none => rfl
    | some o =>
      have := f p o (fun z => nomatch z) e
      rw [h.1] at this
      cases this
  · obtain ⟨o, e⟩ := hJ j hj
    exact ⟨o, f j o (fun z => nomatch z) e⟩
section
variable {P : Program} {w : World} {K : PySem.W.Frag} {mg : Str → Option Value} {base : Heap}
def sp_Plan___init__ (K : PySem.W.Frag) : Sp := fun vs H Q _ => ∃ (x dx a1 a2 a3 a4 : Addr) (d : PD), vs = [.ref x, .ref a1, .ref a2, .ref a3, .ref a4] ∧ H x = some (.ins (He.ga K "Plan") dx []) ∧
  (H a1 = some (.lst (d.L.map V.int)) ∧ H a2 = some (.lst (d.U.map V.int)) ∧ H a3 = some (.lst (d.A.map V.int)) ∧ H a4 = some (.lst (d.B.map V.int))) ∧ d.Ok ∧
  ∀ H' l1 l2 l3 l4, Fr [x] H H' → (H' x = some (.ins (He.ga K "Plan") dx (flds l1 l2 l3 l4))) → (H' l1 = some (.lst (d.L.map V.int)) ∧ H' l2 = some (.lst (d.U.map V.int)) ∧ H' l3 = some (.lst (d.A.map V.int)) ∧ H' l4 = some (.lst (d.B.map V.int))) →
    (H l1 = none ∧ H l2 = none ∧ H l3 = none ∧ H l4 = none) → Q .non H'
theorem k_Plan___init__ (T : Tx fa fn K mg base) : Ini P w K mg base (He.ga K "Plan") ["self", "low", "high", "least", "most"] 3 (sp_Plan___init__ K) s_Plan___init__ "Plan.__init__" := by
  refine T.ini 7 20 (q := "Plan.__init__") (st := s_Plan___init__) sc_Plan___init__ (fun _ _ _ _ _ _ us hl => match us, hl with | [_, _, _, _, _], _ => rfl) (fun vs H Q E h => ?_) (fun cdv A outer s H vs Q E hr h => ?_)
  · obtain ⟨x, dx, a1, a2, a3, a4, d, rfl, _⟩ := h
    rfl
  · obtain ⟨x, dx, a1, a2, a3, a4, d, rfl, hx, ⟨h1, h2, h3, h4⟩, ok, k⟩ := h
    have m1 : (d.L.map V.int).length = d.L.length := List.length_map _
    have m2 : (d.U.map V.int).length = d.L.length := (List.length_map _).trans ok.lU
    have m3 : (d.A.map V.int).length = d.L.length := (List.length_map _).trans ok.lA
    have m4 : (d.B.map V.int).length = d.L.length := (List.length_map _).trans ok.lB
    refine ⟨_, (pss_cons (ps_set (i := 5) sc_Plan___init__.nd rfl (by first | exact Or.inl rfl | exact Or.inr rfl) (pe_tup (pa_cons (pv 1) (pa_cons (pv 2) (pa_cons (pv 3) (pa_cons (pv 4) pa_nil))))))
      (pss_cons (ps_if (pt_not (pt_val (pe_callB (cr_all rfl) (by rfl) (T.fr 5) (by decide +kernel) (pa_cons (pe_lc (own := [("numbers", 6)]) (tt := tYes) (te := (tCall (sp_is_whole_list K) [] E0 (tCons (tVar 6) tNil))) rfl sc_Plan___init__.nd (pi_tup (pv 5)) (blkOk_by (N := ["self", "low", "high", "least", "most", "bounds", "numbers"]) (sc := defScope s_Plan___init__) (by decide +kernel)) (fun _ _ _ _ _ => (pg_name (i := 6) sc_Plan___init__.nd rfl (by first | exact Or.inl rfl | exact Or.inr rfl))) (fun _ _ _ _ _ => pts_nil) (fun _ _ _ _ _ => (pe_f (k_is_whole_list T) hr (pa_cons (pv 6) pa_nil)))) pa_nil)))) (pss_one ps_never) pss_nil)
      (pss_cons (ps_if (pt_val (pe_callB (cr_any rfl) (by rfl) (T.fr 18) (by decide +kernel) (pa_cons (pe_lc (own := [("numbers", 6)]) (tt := tYes) (te := (tOp rNe (tCB (rLenX K) (tCons (tVar 6) tNil)) (tCB (rLenX K) (tCons (tVar 1) tNil)))) rfl sc_Plan___init__.nd (pi_tup (pv 5)) (blkOk_by (N := ["self", "low", "high", "least", "most", "bounds", "numbers"]) (sc := defScope s_Plan___init__) (by decide +kernel)) (fun _ _ _ _ _ => (pg_name (i := 6) sc_Plan___init__.nd rfl (by first | exact Or.inl rfl | exact Or.inr rfl))) (fun _ _ _ _ _ => pts_nil) (fun _ _ _ _ _ => (pe_cmpR op_ne (pe_callB call_len_seq (by rfl) (T.fr 6) (by decide +kernel) (pa_cons (pv 6) pa_nil)) (pe_callB call_len_seq (by rfl) (T.fr 6) (by decide +kernel) (pa_cons (pv 1) pa_nil)) (nomark _)))) pa_nil))) (pss_one ps_never) pss_nil)
      (pss_cons (ps_if (PW.pt (pw_or (pt_not (pt_val (pe_f (k_is_at_most T) hr (pa_cons (pv 1) (pa_cons (pv 2) pa_nil))))) (pw_or1 (pt_not (pt_val (pe_f (k_is_at_most T) hr (pa_cons (pv 3) (pa_cons (pv 4) pa_nil)))))))) (pss_one ps_never) pss_nil)
      (pss_cons (ps_if (pt_cmpR op_ne (pe_ix ix_list (pv 1) (pe_un un_neg pe_int) (fun _ _ => rfl)) (pe_ix ix_list (pv 2) (pe_un un_neg pe_int) (fun _ _ => rfl)) (nomark _)) (pss_one ps_never) pss_nil)
      (pss_cons (ps_fld (pv 0) (pe_callTy call_list_of (by rfl) (T.fr 8) (by decide +kernel) (pa_cons (pv 1) pa_nil)) rfl)
      (pss_cons (ps_fld (pv 0) (pe_callTy call_list_of (by rfl) (T.fr 8) (by decide +kernel) (pa_cons (pv 2) pa_nil)) rfl)
      (pss_cons (ps_fld (pv 0) (pe_callTy call_list_of (by rfl) (T.fr 8) (by decide +kernel) (pa_cons (pv 3) pa_nil)) rfl)
      (pss_one (ps_fld (pv 0) (pe_callTy call_list_of (by rfl) (T.fr 8) (by decide +kernel) (pa_cons (pv 4) pa_nil)) rfl)))))))))), ?_⟩
    have n1 := ne_of h1 hx (by intro z; cases z)
    have n2 := ne_of h2 hx (by intro z; cases z)
    have n3 := ne_of h3 hx (by intro z; cases z)
    have n4 := ne_of h4 hx (by intro z; cases z)
    have four : ∀ (i : Nat) (x : V), [V.ref a1, V.ref a2, V.ref a3, V.ref a4][i]? = some x → ∃ (a : Addr) (ns : List Int), x = .ref a ∧ H a = some (.lst (ns.map V.int)) ∧ ns.length = d.L.length := by
      intro i x h
      match i, h with
      | 0, h => exact ⟨a1, d.L, (Option.some.inj h).symm, h1, rfl⟩
      | 1, h => exact ⟨a2, d.U, (Option.some.inj h).symm, h2, ok.lU⟩
      | 2, h => exact ⟨a3, d.A, (Option.some.inj h).symm, h3, ok.lA⟩
      | 3, h => exact ⟨a4, d.B, (Option.some.inj h).symm, h4, ok.lB⟩
    have one := ok.one
    have most := ok.most
    have lU := ok.lU
    have lA := ok.lA
    have lB := ok.lB
    walk_at "ev0"
    intro b hb
    have f1 : Fr [] H (upd H b (.tup [.ref a1, .ref a2, .ref a3, .ref a4])) := (Fr.refl H).new hb
    have t1 : (upd H b (.tup [.ref a1, .ref a2, .ref a3, .ref a4])) b = some (.tup [.ref a1, .ref a2, .ref a3, .ref a4]) := upd_same
    generalize upd H b (.tup [.ref a1, .ref a2, .ref a3, .ref a4]) = Ha at f1 t1 ⊢
    walk_at "ev"
    -- all four are lists of integers
    refine lc_pure (walk_tup (xs := [.ref a1, .ref a2, .ref a3, .ref a4])) (fun _ => .bl true) (by simp) (fun H' e => SqT.of (e _ _ (fun z => nomatch z) t1)) (fun i H' x H'' y => by rw [y.1]; exact Fr.refl _) (fun i x H' H'' R hi e y kR => ?_) (fun D H' hD e hD' => ?_)
    · obtain ⟨rfl, hx⟩ := y
      obtain ⟨a, ns, rfl, ha, hn⟩ := four i x hx
      walk_at "ev"
      refine ⟨rfl, ?_⟩
      walk_at "ev"
      exact ⟨a, ns, rfl, (f1.trans e) _ _ (fun z => nomatch z) ha, by omega, fun H4 e4 => kR H4 e4⟩
    walk_at "ev"
    refine r_allB (bs := [true, true, true, true]) (b := true) (SqL.of hD') rfl ?_
    walk_at "ev"
    have f2 : Fr [] H H' := f1.trans e
    have t2 := e _ _ (fun z => nomatch z) t1
    clear e hD' hD D f1 t1
    clear hb
    walk_at "ev"
    -- all are equally long
    refine lc_pure (walk_tup (xs := [.ref a1, .ref a2, .ref a3, .ref a4])) (fun _ => .bl false) (by simp) (fun H' e => SqT.of (e _ _ (fun z => nomatch z) t2)) (fun i H' x H'' y => by rw [y.1]; exact Fr.refl _) (fun i x H' H'' R hi e y kR => ?_) (fun D H2 hD e hD' => ?_)
    · obtain ⟨rfl, hx⟩ := y
      obtain ⟨a, ns, rfl, ha, hn⟩ := four i x hx
      walk_at "ev"
      refine ⟨rfl, ?_⟩
      have g1 := (f2.trans e) _ _ (fun z => nomatch z) h1
      have g2 := (f2.trans e) _ _ (fun z => nomatch z) ha
      walk_at "ev"
      have q : (!decide (V.int ((ns.map V.int).length : Int) = V.int ((d.L.map V.int).length : Int))) = false := by
        rw [List.length_map, List.length_map, hn, decide_eq_true rfl]
        rfl
      rw [q]
      exact kR _ (Fr.refl _)
    walk_at "ev"
    refine r_anyB (bs := [false, false, false, false]) (b := false) (SqL.of hD') rfl ?_
    walk_at "ev"
    have f3 : Fr [] H H2 := f2.trans e
    clear e hD' hD D f2 t2
    walk_at "ev"
    -- no bound is above
    refine ⟨a1, a2, d.L, d.U, rfl, f3 _ _ (fun z => nomatch z) h1, f3 _ _ (fun z => nomatch z) h2, by omega, fun H3 e3 => ?_⟩
    rw [leAll_of ok.lu]
    have f4 : Fr [] H H3 := f3.trans e3
    walk_at "ev"
    refine ⟨a3, a4, d.A, d.B, rfl, f4 _ _ (fun z => nomatch z) h3, f4 _ _ (fun z => nomatch z) h4, by omega, fun H4 e4 => ?_⟩
    rw [leAll_of (fun i hi => ok.ab i (by have := ok.lA; omega))]
    have f5 : Fr [] H H4 := f4.trans e4
    have g1 := f5 _ _ (fun z => nomatch z) h1
    have g2 := f5 _ _ (fun z => nomatch z) h2
    walk_at "ev"
    refine r_at (atI_end (ns := d.L) (by omega)) ?_
    walk_at "ev"
    refine r_at (atI_end (ns := d.U) (by omega)) ?_
    walk_at "ev"
    have q : V.int (nth d.L (d.L.length - 1)) = V.int (nth d.U (d.U.length - 1)) := by rw [ok.lU, ok.tot]
    refine r_iteNY q ?_
    walk_at "ev"
    have z0 : Z H H4 [(1, x, .ins (He.ga K "Plan") dx [])] := ((Z.start0 H).old 1 (by decide) hx fun _ z => nomatch z).same f5
    have on1 : ∀ {Hc : Hp} {E : List En}, Z H Hc E → (∀ q ∈ E, q.1 = 1 → q.2.1 = x) → Fr [x] H Hc := fun z h => z.fr1 h
    have away : ∀ {a : Addr}, a ≠ x → a ∉ [x] := fun h m => by
      rcases List.mem_cons.mp m with e | m
      · exact h e
      · cases m
    -- self._low = list(low)
    intro l1 k1
    have z1 := z0.alloc (.lst (d.L.map V.int)) k1
    walk_at "ev"
    refine r_exsfld (z1.get (.tail _ (.head _))) (T.cls 19) (T.noat 76) (by show 0 < 1000; decide) ?_
    have z2 := z1.set 1 (.ins (He.ga K "Plan") dx (putF "_low" (.ref l1) [])) rfl (.inl rfl)
    have g2 := on1 z2 (by simp) _ _ (away n2) h2
    walk_at "ev"
    -- self._high = list(high)
    intro l2 k2
    have z3 := z2.alloc (.lst (d.U.map V.int)) k2
    walk_at "ev"
    refine r_exsfld (z3.get (.tail _ (.tail _ (.head _)))) (T.cls 19) (T.noat 77) (by show 1 < 1000; decide) ?_
    have z4 := z3.set 2 (.ins (He.ga K "Plan") dx (putF "_high" (.ref l2) (putF "_low" (.ref l1) []))) rfl (.inl rfl)
    have g3 := on1 z4 (by simp) _ _ (away n3) h3
    walk_at "ev"
    -- self._least = list(least)
    intro l3 k3
    have z5 := z4.alloc (.lst (d.A.map V.int)) k3
    walk_at "ev"
    refine r_exsfld (z5.get (.tail _ (.tail _ (.tail _ (.head _))))) (T.cls 19) (T.noat 78) (by show 2 < 1000; decide) ?_
    have z6 := z5.set 3 (.ins (He.ga K "Plan") dx (putF "_least" (.ref l3) (putF "_high" (.ref l2) (putF "_low" (.ref l1) [])))) rfl (.inl rfl)
    have g4 := on1 z6 (by simp) _ _ (away n4) h4
    walk_at "ev"
    -- self._most = list(most)
    intro l4 k4
    have z7 := z6.alloc (.lst (d.B.map V.int)) k4
    walk_at "ev"
    refine r_exsfld (z7.get (.tail _ (.tail _ (.tail _ (.tail _ (.head _)))))) (T.cls 19) (T.noat 79) (by show 3 < 1000; decide) ?_
    have z8 := z7.set 4 (.ins (He.ga K "Plan") dx (flds l1 l2 l3 l4)) rfl (.inl rfl)
    exact k _ l1 l2 l3 l4 (on1 z8 (by simp)) (z8.get (.tail _ (.tail _ (.tail _ (.tail _ (.head _)))))) ⟨z8.get (.tail _ (.tail _ (.tail _ (.head _)))), z8.get (.tail _ (.tail _ (.head _))), z8.get (.tail _ (.head _)), z8.get (.head _)⟩
      ⟨z8.fresh (2, l1, _) (.tail _ (.tail _ (.tail _ (.head _)))) rfl, z8.fresh (2, l2, _) (.tail _ (.tail _ (.head _))) rfl, z8.fresh (2, l3, _) (.tail _ (.head _)) rfl, z8.fresh (2, l4, _) (.head _) rfl⟩
end
set_option Elab.async false
set_option linter.all false
set_option maxRecDepth 100000
set_option maxHeartbeats 4000000
theorem dpAll_ints {K : PySem.W.Frag} {H : Hp} : ∀ ns : List Int, DpAll K H (ns.map V.int) (ns.map PyData.int)
  | [] => .nil
  | n :: r => .cons (.int n) (dpAll_ints r)
theorem canLay_ints : ∀ ns : List Int, PyData.canLayAll0 (ns.map PyData.int) = true
  | [] => rfl
  | n :: r => by
    rw [List.map_cons, PyData.canLayAll0, canLay_ints r]
    rfl
theorem depth_ints : ∀ ns : List Int, PyData.depthAll (ns.map PyData.int) = 0
  | [] => rfl
  | n :: r => by
    rw [List.map_cons, PyData.depthAll, depth_ints r]
    rfl
theorem shaped_ints (ns : List Int) : SeqAt.shaped (.list (ns.map PyData.int)) = true := by
  unfold SeqAt.shaped
  rw [PyData.canLay0, canLay_ints, PyData.depth, depth_ints]
  rfl
theorem r_eqI {K : PySem.W.Frag} {H : Hp} {Q : VK} {a b : Addr} {ns ms : List Int} (ha : SqL K H a (ns.map V.int)) (hb : SqL K H b (ms.map V.int)) (q : Q (.bl (decide (ns = ms))) H) : rEqD K (.ref a) (.ref b) H Q := by
  refine ⟨.list (ns.map PyData.int), .list (ms.map PyData.int), .lst ha (dpAll_ints ns), .lst hb (dpAll_ints ms), shaped_ints ns, shaped_ints ms, ?_⟩
  rw [PyData.eqv, PySem.W.ked_eqvAll]
  exact q
section
variable {P : Program} {w : World} {K : PySem.W.Frag} {mg : Str → Option Value} {base : Heap}
abbrev CP (K : PySem.W.Frag) : Addr := He.ga K "Plan"
theorem r_low (T : Tx fa fn K mg base) {H : Hp} {p dx l1 l2 l3 l4 : Addr} {R : V → Prop} (h : H p = some (.ins (CP K) dx (flds l1 l2 l3 l4))) (q : R (.ref l1)) :
    ∃ b C dx fs v, V.ref p = .ref b ∧ H b = some (.ins C dx fs) ∧ Cls K C ∧ NoAttr K C "_low" ∧ fs.lookup ("_low" : Str) = some v ∧ R v := r_exfld h (T.cls 19) (T.noat 76) (flds_low _ _ _ _) q
theorem r_high (T : Tx fa fn K mg base) {H : Hp} {p dx l1 l2 l3 l4 : Addr} {R : V → Prop} (h : H p = some (.ins (CP K) dx (flds l1 l2 l3 l4))) (q : R (.ref l2)) :
    ∃ b C dx fs v, V.ref p = .ref b ∧ H b = some (.ins C dx fs) ∧ Cls K C ∧ NoAttr K C "_high" ∧ fs.lookup ("_high" : Str) = some v ∧ R v := r_exfld h (T.cls 19) (T.noat 77) (flds_high _ _ _ _) q
theorem r_least (T : Tx fa fn K mg base) {H : Hp} {p dx l1 l2 l3 l4 : Addr} {R : V → Prop} (h : H p = some (.ins (CP K) dx (flds l1 l2 l3 l4))) (q : R (.ref l3)) :
    ∃ b C dx fs v, V.ref p = .ref b ∧ H b = some (.ins C dx fs) ∧ Cls K C ∧ NoAttr K C "_least" ∧ fs.lookup ("_least" : Str) = some v ∧ R v := r_exfld h (T.cls 19) (T.noat 78) (flds_least _ _ _ _) q
theorem r_most (T : Tx fa fn K mg base) {H : Hp} {p dx l1 l2 l3 l4 : Addr} {R : V → Prop} (h : H p = some (.ins (CP K) dx (flds l1 l2 l3 l4))) (q : R (.ref l4)) :
    ∃ b C dx fs v, V.ref p = .ref b ∧ H b = some (.ins C dx fs) ∧ Cls K C ∧ NoAttr K C "_most" ∧ fs.lookup ("_most" : Str) = some v ∧ R v := r_exfld h (T.cls 19) (T.noat 79) (flds_most _ _ _ _) q
def sp_list (K : PySem.W.Frag) (f : PD → List Int) : Sp := fun vs H Q _ => ∃ (p : Addr) (d : PD), vs = [.ref p] ∧ PlanAt K [] H p d ∧ ∀ l, H l = none → Q (.ref l) (upd H l (.lst ((f d).map V.int)))
abbrev sp_Plan_low (K : PySem.W.Frag) : Sp := sp_list K PD.L
abbrev sp_Plan_high (K : PySem.W.Frag) : Sp := sp_list K PD.U
abbrev sp_Plan_least (K : PySem.W.Frag) : Sp := sp_list K PD.A
abbrev sp_Plan_most (K : PySem.W.Frag) : Sp := sp_list K PD.B
theorem k_Plan_low (T : Tx fa fn K mg base) : Prp P w K mg base (He.ga K "Plan") "low" 1 (sp_Plan_low K) := by
  refine T.prp 8 21 19 (q := "Plan.low") (st := s_Plan_low) sc_Plan_low (fun _ _ _ _ _ _ us hl => match us, hl with | [_], _ => rfl) (fun vs H Q E h => ?_) (fun cdv A outer s H vs Q E hr h => ?_)
  · obtain ⟨p, d, rfl, _⟩ := h
    rfl
  · obtain ⟨p, d, rfl, pd, k⟩ := h
    obtain ⟨dx, l1, l2, l3, l4, h0, ⟨h1, h2, h3, h4⟩, _⟩ := pd.ex
    refine ⟨_, (pss_one (ps_ret (pe_callTy call_list_of (by rfl) (T.fr 8) (by decide +kernel) (pa_cons (pe_fld (pv 0) rfl) pa_nil)))), ?_⟩
    walk_at "ev0"
    refine r_low T h0 ?_
    walk_at "ev"
    exact k
theorem k_Plan_high (T : Tx fa fn K mg base) : Prp P w K mg base (He.ga K "Plan") "high" 1 (sp_Plan_high K) := by
  refine T.prp 9 22 19 (q := "Plan.high") (st := s_Plan_high) sc_Plan_high (fun _ _ _ _ _ _ us hl => match us, hl with | [_], _ => rfl) (fun vs H Q E h => ?_) (fun cdv A outer s H vs Q E hr h => ?_)
  · obtain ⟨p, d, rfl, _⟩ := h
    rfl
  · obtain ⟨p, d, rfl, pd, k⟩ := h
    obtain ⟨dx, l1, l2, l3, l4, h0, ⟨h1, h2, h3, h4⟩, _⟩ := pd.ex
    refine ⟨_, (pss_one (ps_ret (pe_callTy call_list_of (by rfl) (T.fr 8) (by decide +kernel) (pa_cons (pe_fld (pv 0) rfl) pa_nil)))), ?_⟩
    walk_at "ev0"
    refine r_high T h0 ?_
    walk_at "ev"
    exact k
theorem k_Plan_most (T : Tx fa fn K mg base) : Prp P w K mg base (He.ga K "Plan") "most" 1 (sp_Plan_most K) := by
  refine T.prp 11 24 19 (q := "Plan.most") (st := s_Plan_most) sc_Plan_most (fun _ _ _ _ _ _ us hl => match us, hl with | [_], _ => rfl) (fun vs H Q E h => ?_) (fun cdv A outer s H vs Q E hr h => ?_)
  · obtain ⟨p, d, rfl, _⟩ := h
    rfl
  · obtain ⟨p, d, rfl, pd, k⟩ := h
    obtain ⟨dx, l1, l2, l3, l4, h0, ⟨h1, h2, h3, h4⟩, _⟩ := pd.ex
    refine ⟨_, (pss_one (ps_ret (pe_callTy call_list_of (by rfl) (T.fr 8) (by decide +kernel) (pa_cons (pe_fld (pv 0) rfl) pa_nil)))), ?_⟩
    walk_at "ev0"
    refine r_most T h0 ?_
    walk_at "ev"
    exact k
def sp_Plan_total (K : PySem.W.Frag) : Sp := fun vs H Q _ => ∃ (p : Addr) (d : PD), vs = [.ref p] ∧ PlanAt K [] H p d ∧ 1 ≤ d.L.length ∧ Q (.int (nth d.L (d.L.length - 1))) H
theorem k_Plan_total (T : Tx fa fn K mg base) : Prp P w K mg base (He.ga K "Plan") "total" 1 (sp_Plan_total K) := by
  refine T.prp 12 25 19 (q := "Plan.total") (st := s_Plan_total) sc_Plan_total (fun _ _ _ _ _ _ us hl => match us, hl with | [_], _ => rfl) (fun vs H Q E h => ?_) (fun cdv A outer s H vs Q E hr h => ?_)
  · obtain ⟨p, d, rfl, _⟩ := h
    rfl
  · obtain ⟨p, d, rfl, pd, h1l, k⟩ := h
    obtain ⟨dx, l1, l2, l3, l4, h0, ⟨h1, h2, h3, h4⟩, _⟩ := pd.ex
    refine ⟨_, (pss_one (ps_ret (pe_ix ix_list (pe_fld (pv 0) rfl) (pe_un un_neg pe_int) (fun _ _ => rfl)))), ?_⟩
    walk_at "ev0"
    refine r_low T h0 ?_
    walk_at "ev"
    refine r_at (atI_end (by omega)) ?_
    walk_at "ev"
    exact k
/-- a new plan made -/
theorem r_plan {H : Hp} {Q : VK} {a1 a2 a3 a4 : Addr} {d : PD} (ok : d.Ok) (h1 : H a1 = some (.lst (d.L.map V.int))) (h2 : H a2 = some (.lst (d.U.map V.int))) (h3 : H a3 = some (.lst (d.A.map V.int))) (h4 : H a4 = some (.lst (d.B.map V.int)))
    (k : ∀ p H', Fr [] H H' → NewP K H H' p d → Q (.ref p) H') : ∀ x dx, H x = none → H dx = none → dx ≠ x →
      sp_Plan___init__ K (.ref x :: ([.ref a1, .ref a2, .ref a3, .ref a4] ++ [])) (upd (upd H dx (.own x)) x (.ins (CP K) dx [])) (fun v H2 => v = .non ∧ Q (.ref x) H2) E0 := by
  intro x dx hx hdx hne
  have f1 : Fr [] H (upd H dx (.own x)) := (Fr.refl H).new hdx
  have hx1 : (upd H dx (.own x)) x = none := by
    rw [upd_ne hne.symm]
    exact hx
  have f2 : Fr [] H (upd (upd H dx (.own x)) x (.ins (CP K) dx [])) := f1.new hx1
  have nil : ∀ {a : Addr}, a ∉ ([] : List Addr) := fun m => nomatch m
  refine ⟨x, dx, a1, a2, a3, a4, d, rfl, upd_same, ⟨f2 _ _ nil h1, f2 _ _ nil h2, f2 _ _ nil h3, f2 _ _ nil h4⟩, ok, fun H' l1 l2 l3 l4 fr hx' hl hn => ⟨rfl, ?_⟩⟩
  have back : ∀ {l : Addr}, (upd (upd H dx (.own x)) x (.ins (CP K) dx [])) l = none → H l = none := fun {l} e => by
    cases e1 : H l with
    | none => rfl
    | some o =>
      rw [f2 l o nil e1] at e
      cases e
  refine k x H' (fun a o _ e => ?_) ⟨hx, fun J hJ => ⟨dx, l1, l2, l3, l4, hx', hl, ?_⟩⟩
  · exact fr a o (fun m => by
      rcases List.mem_cons.mp m with m | m
      · rw [m, hx] at e
        cases e
      · cases m) (f2 a o nil e)
  · have no : ∀ {l : Addr}, H l = none → l ∉ J := fun e m => by
      obtain ⟨o, e2⟩ := hJ _ m
      rw [e] at e2
      cases e2
    exact ⟨no hx, no (back hn.1), no (back hn.2.1), no (back hn.2.2.1), no (back hn.2.2.2)⟩
end
set_option Elab.async false
set_option linter.all false
set_option maxRecDepth 100000
set_option maxHeartbeats 4000000
section
variable {P : Program} {w : World} {K : PySem.W.Frag} {mg : Str → Option Value} {base : Heap}
def sp_Plan___eq__ (K : PySem.W.Frag) : Sp := fun vs H Q _ => ∃ (p q : Addr) (d e : PD), vs = [.ref p, .ref q] ∧ PlanAt K [] H p d ∧ PlanAt K [] H q e ∧ Q (.bl (decide (d = e))) H
theorem pd_eq {d e : PD} : decide (d = e) = (decide (d.L = e.L) && (decide (d.U = e.U) && (decide (d.A = e.A) && decide (d.B = e.B)))) := by
  obtain ⟨a, b, c, f⟩ := d
  obtain ⟨a', b', c', f'⟩ := e
  simp [Bool.decide_and]
theorem k_Plan___eq__ (T : Tx fa fn K mg base) : Mth P w K mg base (He.ga K "Plan") "__eq__" ["self", "other"] 1 (sp_Plan___eq__ K) s_Plan___eq__ "Plan.__eq__" := by
  refine T.mth 14 28 19 (q := "Plan.__eq__") (st := s_Plan___eq__) sc_Plan___eq__ (fun _ _ _ _ _ _ us hl => match us, hl with | [_, _], _ => rfl) (fun vs H Q E h => ?_) (fun cdv A outer s H vs Q E hr h => ?_)
  · obtain ⟨p, q, d, e, rfl, _⟩ := h
    rfl
  · obtain ⟨p, q, d, e, rfl, pd, pe, k⟩ := h
    obtain ⟨dx, l1, l2, l3, l4, h0, ⟨h1, h2, h3, h4⟩, _⟩ := pd.ex
    obtain ⟨dy, m1, m2, m3, m4, g0, ⟨g1, g2, g3, g4⟩, _⟩ := pe.ex
    rw [pd_eq] at k
    refine ⟨_, (pss_one (ps_ret (pe_and (pe_callB call_isi (by rfl) (T.fr 0) (by decide +kernel) (pa_cons (pv 1) (pa_cons (pe_glob (v := .ref (He.ga K "Plan")) rfl (T.glo 27) rfl) pa_nil))) (pe_and (pe_cmpR (op_eqD hr.units) (pe_fld (pv 0) rfl) (pe_fld (pv 1) rfl) (nomark _)) (pe_and (pe_cmpR (op_eqD hr.units) (pe_fld (pv 0) rfl) (pe_fld (pv 1) rfl) (nomark _)) (pe_and (pe_cmpR (op_eqD hr.units) (pe_fld (pv 0) rfl) (pe_fld (pv 1) rfl) (nomark _)) (pe_one (pe_cmpR (op_eqD hr.units) (pe_fld (pv 0) rfl) (pe_fld (pv 1) rfl) (nomark _))))))))), ?_⟩
    walk_at "ev0"
    refine r_isi (.own _) (T.isi 73 19 g0) (T.kit 75) ?_
    walk_at "ev"
    refine r_low T h0 ?_
    walk_at "ev"
    refine r_low T g0 (r_eqI (SqL.of h1) (SqL.of g1) ?_)
    walk_at "ev"
    refine r_ite (fun z1 => ?_) (fun z1 => ?_)
    rotate_left
    · rw [decide_eq_false z1] at k
      exact k
    rw [decide_eq_true z1] at k
    walk_at "ev"
    refine r_high T h0 ?_
    walk_at "ev"
    refine r_high T g0 (r_eqI (SqL.of h2) (SqL.of g2) ?_)
    walk_at "ev"
    refine r_ite (fun z2 => ?_) (fun z2 => ?_)
    rotate_left
    · rw [decide_eq_false z2] at k
      exact k
    rw [decide_eq_true z2] at k
    walk_at "ev"
    refine r_least T h0 ?_
    walk_at "ev"
    refine r_least T g0 (r_eqI (SqL.of h3) (SqL.of g3) ?_)
    walk_at "ev"
    refine r_ite (fun z3 => ?_) (fun z3 => ?_)
    rotate_left
    · rw [decide_eq_false z3] at k
      exact k
    rw [decide_eq_true z3] at k
    walk_at "ev"
    refine r_most T h0 ?_
    walk_at "ev"
    refine r_most T g0 (r_eqI (SqL.of h4) (SqL.of g4) ?_)
    walk_at "ev"
    exact k
theorem r_neP {H : Hp} {Q : VK} {p q : Addr} {d e : PD} (pd : PlanAt K [] H p d) (pe : PlanAt K [] H q e) (k : Q (.bl (!decide (d = e))) H) : rNeP (CP K) (sp_Plan___eq__ K) (.ref p) (.ref q) H Q := by
  obtain ⟨dx, l1, l2, l3, l4, h0, _⟩ := pd.ex
  obtain ⟨dy, m1, m2, m3, m4, g0, _⟩ := pe.ex
  exact ⟨p, dx, _, q, dy, _, rfl, rfl, h0, g0, p, q, d, e, rfl, pd, pe, _, rfl, k⟩
end
set_option Elab.async false
set_option linter.all false
set_option maxRecDepth 100000
set_option maxHeartbeats 4000000
section
variable {P : Program} {w : World} {K : PySem.W.Frag} {mg : Str → Option Value} {base : Heap}
def sp_is_between (K : PySem.W.Frag) : Sp := fun vs H Q _ => ∃ i a b : Int, vs = [.int i, .int a, .int b] ∧ Q (.bl (decide (a ≤ i) && decide (i ≤ b))) H
theorem k_is_between (T : Tx fa fn K mg base) : Fk P w K mg base "is_between" ["thing", "least", "most"] 2 (sp_is_between K) s_is_between "is_between" := by
  refine T.fk 1 4 (q := "is_between") (st := s_is_between) sc_is_between (fun _ _ _ _ _ _ us hl => match us, hl with | [_, _, _], _ => rfl) (fun vs H Q E h => ?_) (fun cdv A outer s H vs Q E hr h => ?_)
  · obtain ⟨i, a, b, rfl, _⟩ := h
    rfl
  · obtain ⟨i, a, b, rfl, k⟩ := h
    refine ⟨_, (pss_one (ps_ret (pe_and (pe_f (k_is_whole T) hr (pa_cons (pv 0) pa_nil)) (pe_one (pe_chain op_le op_le (pv 1) (pv 0) (pv 2)))))), ?_⟩
    walk_at "ev0"
    refine whole_int ?_
    walk_at "ev"
    refine r_ite (fun z => ?_) (fun z => ?_)
    · rw [decide_eq_true z] at k
      walk_at "ev"
      exact k
    · rw [decide_eq_false z] at k
      exact k
theorem between {i a b : Int} {H : Hp} {Q : VK} (h1 : a ≤ i) (h2 : i ≤ b) (k : Q (.bl true) H) : sp_is_between K ([V.int i, V.int a, V.int b] ++ []) H Q E0 :=
  ⟨i, a, b, rfl, by rw [decide_eq_true h1, decide_eq_true h2]; exact k⟩
theorem k_Plan_least (T : Tx fa fn K mg base) : Prp P w K mg base (He.ga K "Plan") "least" 1 (sp_Plan_least K) := by
  refine T.prp 10 23 19 (q := "Plan.least") (st := s_Plan_least) sc_Plan_least (fun _ _ _ _ _ _ us hl => match us, hl with | [_], _ => rfl) (fun vs H Q E h => ?_) (fun cdv A outer s H vs Q E hr h => ?_)
  · obtain ⟨p, d, rfl, _⟩ := h
    rfl
  · obtain ⟨p, d, rfl, pd, k⟩ := h
    obtain ⟨dx, l1, l2, l3, l4, h0, ⟨h1, h2, h3, h4⟩, _⟩ := pd.ex
    refine ⟨_, (pss_one (ps_ret (pe_callTy call_list_of (by rfl) (T.fr 8) (by decide +kernel) (pa_cons (pe_fld (pv 0) rfl) pa_nil)))), ?_⟩
    walk_at "ev0"
    refine r_least T h0 ?_
    walk_at "ev"
    exact k
def sp_Plan___len__ (K : PySem.W.Frag) : Sp := fun vs H Q _ => ∃ (p : Addr) (d : PD), vs = [.ref p] ∧ PlanAt K [] H p d ∧ Q (.int (d.L.length : Nat)) H
theorem k_Plan___len__ (T : Tx fa fn K mg base) : Mth P w K mg base (He.ga K "Plan") "__len__" ["self"] 1 (sp_Plan___len__ K) s_Plan___len__ "Plan.__len__" := by
  refine T.mth 13 26 19 (q := "Plan.__len__") (st := s_Plan___len__) sc_Plan___len__ (fun _ _ _ _ _ _ us hl => match us, hl with | [_], _ => rfl) (fun vs H Q E h => ?_) (fun cdv A outer s H vs Q E hr h => ?_)
  · obtain ⟨p, d, rfl, _⟩ := h
    rfl
  · obtain ⟨p, d, rfl, pd, k⟩ := h
    obtain ⟨dx, l1, l2, l3, l4, h0, ⟨h1, h2, h3, h4⟩, _⟩ := pd.ex
    refine ⟨_, (pss_one (ps_ret (pe_callB call_len_seq (by rfl) (T.fr 6) (by decide +kernel) (pa_cons (pe_fld (pv 0) rfl) pa_nil)))), ?_⟩
    walk_at "ev0"
    refine r_low T h0 ?_
    walk_at "ev"
    rw [show (d.L.map V.int).length = d.L.length from List.length_map _]
    exact k
/-- len of a plan -/
theorem r_lenD {H : Hp} {Q : VK} {p : Addr} {d : PD} (pd : PlanAt K [] H p d) (hl : d.L.length < 1000000) (q : Q (.int (d.L.length : Nat)) H) : rLenP (CP K) (sp_Plan___len__ K) [.ref p] H Q := by
  obtain ⟨dx, l1, l2, l3, l4, h0, _⟩ := pd.ex
  exact ⟨p, dx, _, rfl, h0, p, d, rfl, pd, d.L.length, rfl, hl, q⟩
end
set_option Elab.async false
set_option linter.all false
set_option maxRecDepth 100000
set_option maxHeartbeats 4000000
set_option exponentiation.threshold 2000
section
variable {P : Program} {w : World} {K : PySem.W.Frag} {mg : Str → Option Value} {base : Heap}
def PD.tot (d : PD) : Int := nth d.L (d.L.length - 1)
end
set_option Elab.async false
set_option linter.all false
set_option maxRecDepth 100000
set_option maxHeartbeats 4000000
set_option exponentiation.threshold 2000
set_option Elab.async false
set_option linter.all false
set_option maxRecDepth 100000
set_option maxHeartbeats 4000000
set_option exponentiation.threshold 2000
set_option Elab.async false
set_option linter.all false
set_option maxRecDepth 100000
set_option maxHeartbeats 4000000
set_option Elab.async false
set_option linter.all false
set_option maxRecDepth 100000
set_option maxHeartbeats 4000000
theorem nth_app_lt {ns : List Int} {x : Int} {i : Nat} (h : i < ns.length) : nth (ns ++ [x]) i = nth ns i := by
  unfold nth
  rw [List.getD_eq_getElem?_getD, List.getD_eq_getElem?_getD, List.getElem?_append_left h]
theorem nth_app_at {ns : List Int} {x : Int} {i : Nat} (h : i = ns.length) : nth (ns ++ [x]) i = x := by
  unfold nth
  rw [List.getD_eq_getElem?_getD, h, List.getElem?_concat_length]
  rfl
theorem nth_set_ne {ns : List Int} {x : Int} {i k : Nat} (h : i ≠ k) : nth (ns.set k x) i = nth ns i := by
  unfold nth
  rw [List.getD_eq_getElem?_getD, List.getD_eq_getElem?_getD, List.getElem?_set_ne (Ne.symm h)]
theorem nth_set_at {ns : List Int} {x : Int} {k : Nat} (h : k < ns.length) : nth (ns.set k x) k = x := by
  unfold nth
  rw [List.getD_eq_getElem?_getD, List.getElem?_set_self h]
  rfl
/-- the sum of the first ones, up to the i-th -/
def psum (ns : List Int) (i : Nat) : Int := (ns.take (i + 1)).sum
theorem take_sum {ns : List Int} {i : Nat} (h : i < ns.length) : (ns.take (i + 1)).sum = (ns.take i).sum + nth ns i := by
  rw [← getElem_nth h]
  exact sum_take (List.getElem?_eq_getElem h)
theorem ixN_end {n : Nat} (h : 0 < n) : ixN n (-1) = some (n - 1) := by
  unfold ixN
  rw [if_neg (by decide), if_pos (by omega)]
  congr 1
  omega
/-- bounds around the entries ns -/
structure RawOk (ns : List Int) (d : PD) : Prop where
  lL : d.L.length = ns.length
  lU : d.U.length = ns.length
  lA : d.A.length = ns.length
  lB : d.B.length = ns.length
  l : ∀ i, i < ns.length → nth d.L i ≤ psum ns i
  u : ∀ i, i < ns.length → psum ns i ≤ nth d.U i
  a : ∀ i, i < ns.length → nth d.A i ≤ nth ns i
  b : ∀ i, i < ns.length → nth ns i ≤ nth d.B i
  tL : nth d.L (ns.length - 1) = psum ns (ns.length - 1)
  tU : nth d.U (ns.length - 1) = psum ns (ns.length - 1)
  w : ∀ i, i < ns.length → nth d.U i - nth d.L i ≤ 2 ^ 160
  v : ∀ i, i < ns.length → nth d.B i - nth d.A i ≤ 2 ^ 160
  e : ∀ x ∈ ns, -(2 ^ 110) ≤ x ∧ x ≤ 2 ^ 110
theorem RawOk.ok {ns : List Int} {d : PD} (r : RawOk ns d) (h1 : 1 ≤ ns.length) (h2 : ns.length ≤ 200) : d.Ok where
  one := by rw [r.lL]; exact h1
  most := by rw [r.lL]; exact h2
  lU := by rw [r.lL, r.lU]
  lA := by rw [r.lL, r.lA]
  lB := by rw [r.lL, r.lB]
  lu := fun i hi => by
    rw [r.lL] at hi
    exact Int.le_trans (r.l i hi) (r.u i hi)
  ab := fun i hi => by
    rw [r.lL] at hi
    exact Int.le_trans (r.a i hi) (r.b i hi)
  tot := by rw [r.lL, r.tL, r.tU]
/-- the four lists of bounds as they lie -/
abbrev rawN (t l1 l2 l3 l4 : Addr) (d : PD) : List (Addr × HO) := [(t, .tup [.ref l1, .ref l2, .ref l3, .ref l4]), (l1, .lst (d.L.map V.int)), (l2, .lst (d.U.map V.int)), (l3, .lst (d.A.map V.int)), (l4, .lst (d.B.map V.int))]
section
variable {P : Program} {w : World} {K : PySem.W.Frag} {mg : Str → Option Value} {base : Heap}
/-- other bounds of the entries -/
theorem RawOk.with {ns : List Int} {d : PD} (r : RawOk ns d) {A B : List Int} (lA : A.length = ns.length) (lB : B.length = ns.length) (a : ∀ i, i < ns.length → nth A i ≤ nth ns i) (b : ∀ i, i < ns.length → nth ns i ≤ nth B i) (v : ∀ i, i < ns.length → nth B i - nth A i ≤ 2 ^ 160) : RawOk ns ⟨d.L, d.U, A, B⟩ :=
  ⟨r.lL, r.lU, lA, lB, r.l, r.u, a, b, r.tL, r.tU, r.w, v, r.e⟩
end
set_option Elab.async false
set_option linter.all false
set_option maxRecDepth 100000
set_option maxHeartbeats 4000000
set_option exponentiation.threshold 2000
theorem atN {ns : List Int} {i : Nat} (h : i < ns.length) : atI (ns.map V.int) (i : Int) = some (.int (nth ns i)) := atI_nat (at_nth h)
theorem ixN_at {n i : Nat} (h : i < n) : ixN n (i : Int) = some i := by
  unfold ixN
  rw [if_pos (by omega), if_pos (by omega)]
  rfl
/-- what is known, told anew by places -/
theorem four {a b c d : Int} {v : Int} (h0 : 0 ≤ v) (h1 : v < 4) : ∃ x, atI [V.int a, V.int b, V.int c, V.int d] v = some (.int x) ∧ (x = a ∨ x = b ∨ x = c ∨ x = d) := by
  rcases (show v = 0 ∨ v = 1 ∨ v = 2 ∨ v = 3 by omega) with rfl | rfl | rfl | rfl
  · exact ⟨a, rfl, .inl rfl⟩
  · exact ⟨b, rfl, .inr (.inl rfl)⟩
  · exact ⟨c, rfl, .inr (.inr (.inl rfl))⟩
  · exact ⟨d, rfl, .inr (.inr (.inr rfl))⟩
set_option Elab.async false
set_option linter.all false
set_option maxRecDepth 100000
set_option maxHeartbeats 4000000
set_option exponentiation.threshold 2000
/-- bounds lie at r as a tuple (b) or a list of four lists, apart from what J names -/
structure RawAt (J : List Addr) (H : Hp) (b : Bool) (r : Addr) (d : PD) : Prop where
  ex : ∃ l1 l2 l3 l4, (if b = true then H r = some (.tup [.ref l1, .ref l2, .ref l3, .ref l4]) else H r = some (.lst [.ref l1, .ref l2, .ref l3, .ref l4])) ∧
    (H l1 = some (.lst (d.L.map V.int)) ∧ H l2 = some (.lst (d.U.map V.int)) ∧ H l3 = some (.lst (d.A.map V.int)) ∧ H l4 = some (.lst (d.B.map V.int))) ∧ (r ∉ J ∧ l1 ∉ J ∧ l2 ∉ J ∧ l3 ∉ J ∧ l4 ∉ J)
theorem RawAt.mono {J : List Addr} {H H' : Hp} {b : Bool} {r : Addr} {d : PD} (h : RawAt J H b r d) (f : Fr J H H') : RawAt J H' b r d := by
  obtain ⟨l1, l2, l3, l4, h0, ⟨h1, h2, h3, h4⟩, n0, n1, n2, n3, n4⟩ := h.ex
  refine ⟨l1, l2, l3, l4, ?_, ⟨f _ _ n1 h1, f _ _ n2 h2, f _ _ n3 h3, f _ _ n4 h4⟩, n0, n1, n2, n3, n4⟩
  cases b with
  | true => exact f _ _ n0 h0
  | false => exact f _ _ n0 h0
theorem RawAt.nil {J : List Addr} {H : Hp} {b : Bool} {r : Addr} {d : PD} (h : RawAt J H b r d) : RawAt [] H b r d := by
  obtain ⟨l1, l2, l3, l4, h0, h1, _⟩ := h.ex
  exact ⟨l1, l2, l3, l4, h0, h1, (fun z => nomatch z), (fun z => nomatch z), (fun z => nomatch z), (fun z => nomatch z), fun z => nomatch z⟩
theorem New.raw {H H' : Hp} {t l1 l2 l3 l4 : Addr} {d : PD} (n : New H H' (rawN t l1 l2 l3 l4 d)) {J : List Addr} (hJ : ∀ j ∈ J, ∃ o, H j = some o) : RawAt J H' true t d := by
  have no : ∀ q ∈ rawN t l1 l2 l3 l4 d, q.1 ∉ J := fun q hq m => by
    obtain ⟨o, e⟩ := hJ _ m
    rw [n.2 q hq] at e
    cases e
  exact ⟨l1, l2, l3, l4, n.1.2 _ (.head _), ⟨n.1.2 _ (.tail _ (.head _)), n.1.2 _ (.tail _ (.tail _ (.head _))), n.1.2 _ (.tail _ (.tail _ (.tail _ (.head _)))), n.1.2 _ (.tail _ (.tail _ (.tail _ (.tail _ (.head _)))))⟩,
    no _ (.head _), no _ (.tail _ (.head _)), no _ (.tail _ (.tail _ (.head _))), no _ (.tail _ (.tail _ (.tail _ (.head _)))), no _ (.tail _ (.tail _ (.tail _ (.tail _ (.head _)))))⟩
set_option Elab.async false
set_option linter.all false
set_option maxRecDepth 100000
set_option maxHeartbeats 4000000
set_option exponentiation.threshold 2000
set_option Elab.async false
set_option linter.all false
set_option maxRecDepth 100000
set_option maxHeartbeats 4000000
set_option exponentiation.threshold 2000
theorem nin {α : Type} {a : α} : a ∉ ([] : List α) := fun m => nomatch m
theorem Fr.drop {H H1 H2 : Hp} {p : Addr} (a : Fr [] H H1) (b : Fr [p] H1 H2) (h : H p = none) : Fr [] H H2 := fun x o hx e => b x o (fun m => by
  rw [List.mem_singleton.mp m, h] at e
  cases e) (a x o hx e)
/-- lists of lists of integers that lie -/
inductive LLAt (H : Hp) : List V → List (List Int) → Prop where
  | nil : LLAt H [] []
  | cons {a : Addr} {ns : List Int} {vs : List V} {r : List (List Int)} (h : H a = some (.lst (ns.map V.int))) (t : LLAt H vs r) : LLAt H (.ref a :: vs) (ns :: r)
abbrev llD (xs : List (List Int)) : PyData := .list (xs.map fun ns => .list (ns.map PyData.int))
theorem LLAt.dp {K : PySem.W.Frag} {H : Hp} {vs : List V} {r : List (List Int)} (h : LLAt H vs r) : DpAll K H vs (r.map fun ns => .list (ns.map PyData.int)) := by
  induction h with
  | nil => exact .nil
  | cons h _ ih => exact .cons (.lst (SqL.of h) (dpAll_ints _)) ih
theorem canLay_ll : ∀ r : List (List Int), PyData.canLayAll0 (r.map fun ns => .list (ns.map PyData.int)) = true
  | [] => rfl
  | n :: r => by
    rw [List.map_cons, PyData.canLayAll0, canLay_ll r, PyData.canLay0, canLay_ints]
    rfl
section
variable {P : Program} {w : World} {K : PySem.W.Frag} {mg : Str → Option Value} {base : Heap}
theorem r_planA {H : Hp} {Q : Addr → Hp → Prop} {a1 a2 a3 a4 : Addr} {d : PD} (ok : d.Ok) (h1 : H a1 = some (.lst (d.L.map V.int))) (h2 : H a2 = some (.lst (d.U.map V.int))) (h3 : H a3 = some (.lst (d.A.map V.int))) (h4 : H a4 = some (.lst (d.B.map V.int)))
    (k : ∀ p H', Fr [] H H' → NewP K H H' p d → Q p H') : ∀ x dx, H x = none → H dx = none → dx ≠ x →
      sp_Plan___init__ K (.ref x :: ([.ref a1, .ref a2, .ref a3, .ref a4] ++ [])) (upd (upd H dx (.own x)) x (.ins (CP K) dx [])) (fun v H2 => v = .non ∧ Q x H2) E0 := by
  intro x dx hx hdx hne
  have h := r_plan (Q := fun v H2 => ∃ y, v = .ref y ∧ Q y H2) ok h1 h2 h3 h4 (fun p H' f n => ⟨p, rfl, k p H' f n⟩) x dx hx hdx hne
  have e : (fun (v : V) (H2 : Hp) => v = .non ∧ ∃ y, V.ref x = .ref y ∧ Q y H2) = fun v H2 => v = .non ∧ Q x H2 := by
    funext v H2
    simp
  exact e ▸ h
end
set_option Elab.async false
set_option linter.all false
set_option maxRecDepth 100000
set_option maxHeartbeats 4000000
set_option exponentiation.threshold 2000
theorem Fr.none {H H1 : Hp} {p : Addr} (f : Fr [] H H1) (h : H1 p = Option.none) : H p = Option.none := by
  cases e : H p with
  | none => rfl
  | some o =>
    rw [f _ _ (fun z => nomatch z) e] at h
    cases h
theorem zpick_nd {H0 H : Hp} {E : List En} (z : Z H0 H E) : ∀ (is : List Nat) (N : List (Addr × HO)), is.Nodup → is.map (fun i => E[i]?) = N.map (fun q => some ((2, q.1, q.2) : En)) → (N.map (·.1)).Nodup
  | [], [], _, _ => List.nodup_nil
  | [], _ :: _, _, e => by cases e
  | _ :: _, [], _, e => by cases e
  | i :: is, p :: N, nd, e => by
    rw [List.map_cons, List.map_cons, List.cons.injEq] at e
    rw [List.nodup_cons] at nd
    rw [List.map_cons, List.nodup_cons]
    refine ⟨fun m => ?_, zpick_nd z is N nd.2 e.2⟩
    obtain ⟨q, hq, e1⟩ := List.mem_map.mp m
    obtain ⟨k, hk, h⟩ := pick_mem is N e.2 q hq
    exact z.other e.1 h (fun x => nd.1 (x ▸ hk)) e1
/-- of what is known the entries at these places -/
theorem Z.pick {H0 H : Hp} {E : List En} (z : Z H0 H E) {N : List (Addr × HO)} (is : List Nat) (e : is.map (fun i => E[i]?) = N.map (fun q => some ((2, q.1, q.2) : En))) (nd : is.Nodup := by decide) : New H0 H N :=
  ⟨⟨zpick_nd z is N nd e, fun q hq => by
    obtain ⟨i, _, h⟩ := pick_mem is N e q hq
    exact z.at_ _ (List.mem_of_getElem? h)⟩, fun q hq => by
    obtain ⟨i, _, h⟩ := pick_mem is N e q hq
    exact z.fresh _ (List.mem_of_getElem? h) rfl⟩
/-- what is known, told anew by places -/
theorem Z.sel {H0 H : Hp} {E : List En} (z : Z H0 H E) (h1 : ∀ q ∈ E, q.1 ≠ 1) {N : List (Addr × HO)} (is : List Nat) (e : is.map (fun i => E[i]?) = N.map (fun q => some ((2, q.1, q.2) : En))) (nd : is.Nodup := by decide) : Z H0 H (N.map fun q => ((2, q.1, q.2) : En)) := by
  have n := z.pick is e nd
  refine ⟨?_, fun q hq => ?_, fun q hq _ => ?_, fun a o _ h => z.fr a o (fun q hq e1 => absurd e1 (h1 q hq)) h⟩
  · rw [List.map_map]
    exact n.1.1
  · obtain ⟨r, hr, rfl⟩ := List.mem_map.mp hq
    exact n.1.2 r hr
  · obtain ⟨r, hr, rfl⟩ := List.mem_map.mp hq
    exact n.2 r hr
def revA {α : Type} (us ws : List α) : List α := us ++ ws.reverse
theorem kr_rev0 {n : Nat} {vs : List V} {us : List Value} {zs : List V} {ws : List Value} (h1 : Vals vs us) (h2 : Vals zs ws) (_ : zs.length = n) (_ : vs.length = 0) : Vals (revA vs zs) (revA us ws) := h1.append h2.reverse
/-- [f(i) for .. if p(i)], nothing that stood changed -/
theorem lc_filt {J : It} {n : Nat} {GG : Hp → Prop} {Y : Nat → Hp → V → Hp → Prop} {g : TG} {tt : TT} {te : TE} {vs : List Nat} {σ : L2.St} {H1 : Hp} {Q : VK} (w : Walk J n GG Y) (f : Nat → V) (p : Nat → Bool) (hn : n ≤ 100000) (hG : ∀ H', Fr [] H1 H' → GG H') (hY : ∀ i H' x H'', Y i H' x H'' → Fr [] H' H'')
    (he : ∀ i x H' H'' (R : VK) (N : Hp → Prop), i < n → Fr [] H1 H' → Y i H' x H'' → (p i = true → ∀ H4, Fr [] H'' H4 → R (f i) H4) → (p i = false → ∀ H4, Fr [] H'' H4 → N H4) → g x (wipe σ vs) H'' fun σ2 H2 => wipe σ2 vs = wipe σ vs ∧ tt σ2 H2 fun b H3 => if b = true then te σ2 H3 R else N H3)
    (hd : ∀ D H', H1 D = none → Fr [] H1 H' → H' D = some (.lst (((List.range n).filter p).map f)) → Q (.ref D) H') : LcJ g tt te vs σ Q J H1 := by
  intro D hD
  refine lc_it w (fun i H' => i ≤ n ∧ Fr [] H1 H' ∧ H' D = some (.lst (((List.range i).filter p).map f))) ⟨Nat.zero_le _, (Fr.refl H1).mut hD, upd_same⟩ (fun i H' _ p => hG H' p.2.1) (fun i x H' H'' hi p y => ?_) (fun H' p => hd D H' hD p.2.1 p.2.2)
  obtain ⟨p1, p2, p3⟩ := p
  have hf := hY i H' x H'' y
  refine he i x H' H'' _ _ hi p2 y (fun pi H4 e4 => ?_) (fun pi H4 e4 => ?_)
  · have e5 : Fr [] H' H4 := hf.trans e4
    refine ⟨_, e5 _ _ (fun z => nomatch z) p3, ?_, hi, (p2.trans e5).mut hD, ?_⟩
    · rw [List.length_map]
      have := List.length_filter_le p (List.range i)
      rw [List.length_range] at this
      exact Nat.lt_of_le_of_lt this (Nat.lt_of_lt_of_le (show i < 100001 by omega) (by decide))
    · rw [upd_same, List.range_succ, List.filter_append, List.map_append, List.filter_cons_of_pos (by exact pi)]
      rfl
  · have e5 : Fr [] H' H4 := hf.trans e4
    refine ⟨hi, p2.trans e5, ?_⟩
    rw [List.range_succ, List.filter_append, List.filter_cons_of_neg (by simp [pi]), List.filter_nil, List.append_nil]
    exact e5 _ _ (fun z => nomatch z) p3
/-- X_0 .. X_i -/
def sumsTo (ns : List Int) (i : Nat) : List Int := (List.range (i + 1)).map fun k => (ns.take k).sum
abbrev sums0 (ns : List Int) : List Int := sumsTo ns ns.length
/-- X_1 .. X_i -/
def hsTo (ns : List Int) (i : Nat) : List Int := (List.range i).map fun k => (ns.take (k + 1)).sum
abbrev heights (ns : List Int) : List Int := hsTo ns ns.length
theorem sumsTo_len {ns : List Int} {i : Nat} : (sumsTo ns i).length = i + 1 := by simp [sumsTo]
theorem hsTo_len {ns : List Int} {i : Nat} : (hsTo ns i).length = i := by simp [hsTo]
theorem sumsTo_succ (ns : List Int) (i : Nat) : sumsTo ns (i + 1) = sumsTo ns i ++ [(ns.take (i + 1)).sum] := by
  unfold sumsTo
  rw [List.range_succ, List.map_append]
  rfl
theorem nth_range {f : Nat → Int} {n i : Nat} (h : i < n) : nth ((List.range n).map f) i = f i := by
  unfold nth
  rw [List.getD_eq_getElem?_getD, List.getElem?_map, List.getElem?_range h]
  rfl
theorem nth_sumsTo {ns : List Int} {i k : Nat} (h : k ≤ i) : nth (sumsTo ns i) k = (ns.take k).sum := nth_range (by omega)
theorem nth_hsTo {ns : List Int} {i k : Nat} (h : k < i) : nth (hsTo ns i) k = (ns.take (k + 1)).sum := nth_range h
theorem leAll_iff {ns ms : List Int} : leAll ns ms = true ↔ ∀ i, i < ns.length → i < ms.length → nth ns i ≤ nth ms i := by
  unfold leAll
  rw [List.all_eq_true]
  constructor
  · intro h i h1 h2
    exact of_decide_eq_true (h i (List.mem_range.mpr (by omega)))
  · intro h i hi
    have := List.mem_range.mp hi
    exact decide_eq_true (h i (by omega) (by omega))
theorem nth_ext {ns ms : List Int} (l : ns.length = ms.length) (h : ∀ i, i < ns.length → nth ns i = nth ms i) : ns = ms := by
  refine List.ext_getElem l fun i h1 h2 => ?_
  rw [getElem_nth h1, getElem_nth h2]
  exact h i h1
set_option Elab.async false
set_option linter.all false
set_option maxRecDepth 100000
set_option maxHeartbeats 4000000
set_option exponentiation.threshold 2000
/-- the inner sums from the end -/
def turn (t : Int) (ns : List Int) : List Int := (ns.dropLast.reverse.map fun x => t - x) ++ [t]
set_option Elab.async false
set_option linter.all false
set_option maxRecDepth 100000
set_option maxHeartbeats 4000000
section
variable {P : Program} {w : World} {K : PySem.W.Frag} {mg : Str → Option Value} {base : Heap}
def sp_sums_from_zero (K : PySem.W.Frag) : Sp := fun vs H Q _ => ∃ (a : Addr) (ns : List Int), vs = [.ref a] ∧ H a = some (.lst (ns.map V.int)) ∧ ns.length ≤ 10000 ∧ ∀ p H', H p = none → Fr [] H H' → H' p = some (.lst ((sums0 ns).map V.int)) → Q (.ref p) H'
theorem k_sums_from_zero (T : Tx fa fn K mg base) : Fk P w K mg base "sums_from_zero" ["row"] 1 (sp_sums_from_zero K) s_sums_from_zero "sums_from_zero" := by
  refine T.fk 4 12 (q := "sums_from_zero") (st := s_sums_from_zero) sc_sums_from_zero (fun _ _ _ _ _ _ us hl => match us, hl with | [_], _ => rfl) (fun vs H Q E h => ?_) (fun cdv A outer s H vs Q E hr h => ?_)
  · obtain ⟨a, ns, rfl, _⟩ := h
    rfl
  · obtain ⟨a, ns, rfl, ha, hn, k⟩ := h
    have hl : (ns.map V.int).length = ns.length := List.length_map _
    refine ⟨_, (pss_cons (ps_set (i := 1) sc_sums_from_zero.nd rfl (by first | exact Or.inl rfl | exact Or.inr rfl) (pe_lst (pa_cons pe_int pa_nil)))
      (pss_cons (ps_for PassesOwn.never rfl (pi_list (pv 0)) (pg_name (i := 2) sc_sums_from_zero.nd rfl (by first | exact Or.inl rfl | exact Or.inr rfl)) (pss_one (ps_expr (pe_bm PySem.F.plainAttrs_list PySem.F.slot_list_append PySem.F.type_list_append mt_append (pv 1) (pa_cons (pe_op op_add (pe_ix ix_list (pv 1) (pe_un un_neg pe_int) (fun _ _ => rfl)) (pv 2)) pa_nil)))))
      (pss_one (ps_ret (pv 1))))), ?_⟩
    walk_at "ev0"
    intro p k1
    have z1 := (Z.start0 H).alloc (.lst [.int 0]) k1
    walk_at "ev"
    refine for_it (walk_list (xs := ns.map V.int)) (fun i σ H' => ∃ u : Option V, σ = [some (.ref a), some (.ref p), u] ∧ Z H H' [(2, p, .lst ((sumsTo ns i).map V.int))]) ⟨none, rfl, z1⟩ (fun i σ H' _ p => ?_) (fun i x σ H' H'' hi p y => ?_) (fun σ H' p => ?_)
    · obtain ⟨u, _, z⟩ := p
      exact SqL.of (z.keep ha (by simp))
    · obtain ⟨u, rfl, z⟩ := p
      obtain ⟨rfl, hx⟩ := y
      obtain rfl := nth_at hx
      have hi' : i < ns.length := by omega
      walk_at "ev"
      refine r_at (atI_end (by rw [sumsTo_len]; omega)) ?_
      rw [sumsTo_len, Nat.add_sub_cancel, nth_sumsTo (Nat.le_refl _)]
      walk_at "ev"
      refine r_app (z.get (.head _)) (smalllt' (by rw [List.length_map, sumsTo_len]; omega)) ?_
      walk_at "ev"
      refine ⟨_, rfl, ?_⟩
      rw [← take_sum hi', show [V.int (ns.take (i + 1)).sum] = [(ns.take (i + 1)).sum].map V.int from rfl, ← List.map_append, ← sumsTo_succ]
      exact z.set 0 _ rfl (.inr rfl)
    · obtain ⟨u, rfl, z⟩ := p
      rw [hl] at z
      walk_at "ev"
      exact k p H' k1 (z.fr0 (by simp)) (z.get (.head _))
end
set_option Elab.async false
set_option linter.all false
set_option maxRecDepth 100000
set_option maxHeartbeats 4000000
set_option exponentiation.threshold 2000
def PD.lo (d : PD) (t : Nat) : Int := nth (0 :: d.L) t
def PD.hi (d : PD) (t : Nat) : Int := nth (0 :: d.U) t
def PD.a (d : PD) (t : Nat) : Int := nth d.A t
def PD.b (d : PD) (t : Nat) : Int := nth d.B t
abbrev PD.RowX (d : PD) (X : Nat → Int) : Prop := RowS d.L.length d.lo d.hi d.a d.b X
def PD.Has (d : PD) : Prop := ∃ X, d.RowX X
def tab (f : Nat → Int) (i : Nat) : List Int := (List.range (i + 1)).map f
theorem tab_len {f : Nat → Int} {i : Nat} : (tab f i).length = i + 1 := by simp [tab]
theorem tab_succ (f : Nat → Int) (i : Nat) : tab f (i + 1) = tab f i ++ [f (i + 1)] := by
  unfold tab
  rw [List.range_succ, List.map_append]
  rfl
theorem nth_tab {f : Nat → Int} {i k : Nat} (h : k ≤ i) : nth (tab f i) k = f k := nth_range (by omega)
def begF (d : PD) : List Int := tab (floorF d.lo d.a) d.L.length
def begC (d : PD) : List Int := tab (ceilF d.hi d.b) d.L.length
def topL (d : PD) : List Int := tab (topF d.hi d.a d.b d.L.length) d.L.length
def botL (d : PD) : List Int := tab (botF d.lo d.a d.b d.L.length) d.L.length
theorem ifmax (i j : Int) : (if j > i then j else i) = max i j := by split <;> omega
theorem ifmin (i j : Int) : (if j < i then j else i) = min i j := by split <;> omega
theorem PD.lo0 (d : PD) : d.lo 0 = 0 := rfl
theorem PD.hi0 (d : PD) : d.hi 0 = 0 := rfl
theorem PD.loS (d : PD) (t : Nat) : d.lo (t + 1) = nth d.L t := rfl
theorem PD.hiS (d : PD) (t : Nat) : d.hi (t + 1) = nth d.U t := rfl
theorem PD.Ok.abF {d : PD} (ok : d.Ok) : ∀ t, t < d.L.length → d.a t ≤ d.b t := fun t h => ok.ab t h
def hasR (d : PD) : Bool := leAll (begF d) (begC d)
theorem PD.Has.r {d : PD} (h : d.Has) : hasR d = true := by
  obtain ⟨X, r⟩ := h
  refine leAll_iff.mpr fun i h1 h2 => ?_
  rw [begF, tab_len] at h1
  rw [begF, begC, nth_tab (by omega), nth_tab (by omega)]
  exact Int.le_trans (r.floor i (by omega)) (r.ceil i (by omega))
section
variable {P : Program} {w : World} {K : PySem.W.Frag} {mg : Str → Option Value} {base : Heap}
/-- a list of a plan told -/
theorem r_pl {f : PD → List Int} {H : Hp} {Q : VK} {p : Addr} {d : PD} (pd : PlanAt K [] H p d) (q : ∀ l, H l = none → Q (.ref l) (upd H l (.lst ((f d).map V.int)))) :
    ∃ b dx fs, V.ref p = .ref b ∧ H b = some (.ins (CP K) dx fs) ∧ sp_list K f (.ref b :: []) H Q E0 := by
  obtain ⟨dx, l1, l2, l3, l4, h0, _⟩ := pd.ex
  exact ⟨p, dx, _, rfl, h0, p, d, rfl, pd, q⟩
theorem walk_zip4D {d : PD} (ok : d.Ok) {l1 l2 l3 l4 : Addr} : Walk (ItzN K [l1, l2, l3, l4]) d.L.length (fun H => SqL K H l1 (d.L.map V.int) ∧ SqL K H l2 (d.U.map V.int) ∧ SqL K H l3 (d.A.map V.int) ∧ SqL K H l4 (d.B.map V.int))
    (fun i H v H' => ∃ T : Addr, v = .ref T ∧ H T = none ∧ H' = upd H T (.tup [.int (nth d.L i), .int (nth d.U i), .int (nth d.A i), .int (nth d.B i)])) := by
  have lU := ok.lU
  have lA := ok.lA
  have lB := ok.lB
  refine (walk_zipN (K := K) (as := [l1, l2, l3, l4]) (L := [d.L.map V.int, d.U.map V.int, d.A.map V.int, d.B.map V.int]) (n := d.L.length) rfl (by simp) (fun xs hx => ?_) ⟨d.L.map V.int, by simp, List.length_map _⟩).mono (fun H ⟨h1, h2, h3, h4⟩ m a xs em ex => ?_) (fun i H v H' hi _ ⟨T, e1, e2, e3⟩ => ⟨T, e1, e2, ?_⟩)
  · simp only [List.mem_cons, List.not_mem_nil, or_false] at hx
    rcases hx with rfl | rfl | rfl | rfl <;> rw [List.length_map] <;> omega
  · match m, em, ex with
    | 0, em, ex => cases em; cases ex; exact h1
    | 1, em, ex => cases em; cases ex; exact h2
    | 2, em, ex => cases em; cases ex; exact h3
    | 3, em, ex => cases em; cases ex; exact h4
  · have g : ∀ {ns : List Int}, i < ns.length → (ns.map V.int).getD i V.non = .int (nth ns i) := fun h => by
      rw [List.getD_eq_getElem?_getD, at_nth h]
      rfl
    rw [e3]
    simp only [List.map_cons, List.map_nil]
    rw [g hi, g (by omega), g (by omega), g (by omega)]
def sp__begun_sums (K : PySem.W.Frag) : Sp := fun vs H Q _ => ∃ (p : Addr) (d : PD), vs = [.ref p] ∧ PlanAt K [] H p d ∧ d.Ok ∧ ∀ t f c H', Fr [] H H' → New H H' [(t, .tup [.ref f, .ref c]), (f, .lst ((begF d).map V.int)), (c, .lst ((begC d).map V.int))] → Q (.ref t) H'
theorem k__begun_sums (T : Tx fa fn K mg base) : Fk P w K mg base "_begun_sums" ["plan"] 3 (sp__begun_sums K) s__begun_sums "_begun_sums" := by
  refine T.fk 19 34 (q := "_begun_sums") (st := s__begun_sums) sc__begun_sums (fun _ _ _ _ _ _ us hl => match us, hl with | [_], _ => rfl) (fun vs H Q E h => ?_) (fun cdv A outer s H vs Q E hr h => ?_)
  · obtain ⟨p, d, rfl, _⟩ := h
    rfl
  · obtain ⟨p, d, rfl, pd, ok, k⟩ := h
    have one := ok.one
    have most := ok.most
    refine ⟨_, (pss_cons (ps_par (i := 1) (j := 2) (by rfl) sc__begun_sums.nd rfl rfl (by decide) rfl rfl (pa_cons (pe_lst (pa_cons pe_int pa_nil)) (pa_cons (pe_lst (pa_cons pe_int pa_nil)) pa_nil)) (by rfl))
      (pss_cons (ps_for PassesOwn.never rfl (pi_zip4 (by rfl) (T.fr 10) (pa_cons (pe_pr (pv 0) (k_Plan_low T) hr) (pa_cons (pe_pr (pv 0) (k_Plan_high T) hr) (pa_cons (pe_pr (pv 0) (k_Plan_least T) hr) (pa_cons (pe_pr (pv 0) (k_Plan_most T) hr) pa_nil))))) (pg_tup rfl (pgs_cons (pg_name (i := 3) sc__begun_sums.nd rfl (by first | exact Or.inl rfl | exact Or.inr rfl)) (pgs_cons (pg_name (i := 4) sc__begun_sums.nd rfl (by first | exact Or.inl rfl | exact Or.inr rfl)) (pgs_cons (pg_name (i := 5) sc__begun_sums.nd rfl (by first | exact Or.inl rfl | exact Or.inr rfl)) (pgs_cons (pg_name (i := 6) sc__begun_sums.nd rfl (by first | exact Or.inl rfl | exact Or.inr rfl)) pgs_nil))))) (pss_cons (ps_expr (pe_bm PySem.F.plainAttrs_list PySem.F.slot_list_append PySem.F.type_list_append mt_append (pv 1) (pa_cons (pe_callB (call_max2 rfl) (by rfl) (T.fr 16) (by decide +kernel) (pa_cons (pv 3) (pa_cons (pe_op op_add (pe_ix ix_list (pv 1) (pe_un un_neg pe_int) (fun _ _ => rfl)) (pv 5)) pa_nil))) pa_nil)))
      (pss_one (ps_expr (pe_bm PySem.F.plainAttrs_list PySem.F.slot_list_append PySem.F.type_list_append mt_append (pv 2) (pa_cons (pe_callB (call_min2 rfl) (by rfl) (T.fr 15) (by decide +kernel) (pa_cons (pv 4) (pa_cons (pe_op op_add (pe_ix ix_list (pv 2) (pe_un un_neg pe_int) (fun _ _ => rfl)) (pv 6)) pa_nil))) pa_nil))))))
      (pss_one (ps_ret (pe_tup (pa_cons (pv 1) (pa_cons (pv 2) pa_nil))))))), ?_⟩
    walk_at "ev0"
    intro f k1
    have z1 := (Z.start0 H).alloc (.lst [.int 0]) k1
    walk_at "ev"
    intro c k2
    have z2 := z1.alloc (.lst [.int 0]) k2
    walk_at "ev"
    refine r_pl (pd.mono (z2.fr0 (by simp))) fun l1 k3 => ?_
    have z3 := z2.alloc (.lst (d.L.map V.int)) k3
    walk_at "ev"
    refine r_pl (pd.mono (z3.fr0 (by simp))) fun l2 k4 => ?_
    have z4 := z3.alloc (.lst (d.U.map V.int)) k4
    walk_at "ev"
    refine r_pl (pd.mono (z4.fr0 (by simp))) fun l3 k5 => ?_
    have z5 := z4.alloc (.lst (d.A.map V.int)) k5
    walk_at "ev"
    refine r_pl (pd.mono (z5.fr0 (by simp))) fun l4 k6 => ?_
    have z6 := z5.alloc (.lst (d.B.map V.int)) k6
    walk_at "ev"
    refine for_it (walk_zip4D ok) (fun i σ H' => ∃ u1 u2 u3 u4 : Option V, σ = [some (.ref p), some (.ref f), some (.ref c), u1, u2, u3, u4] ∧
      Z H H' [(2, l4, .lst (d.B.map V.int)), (2, l3, .lst (d.A.map V.int)), (2, l2, .lst (d.U.map V.int)), (2, l1, .lst (d.L.map V.int)), (2, c, .lst ((tab (ceilF d.hi d.b) i).map V.int)), (2, f, .lst ((tab (floorF d.lo d.a) i).map V.int))]) ⟨none, none, none, none, rfl, z6⟩ (fun i σ H' _ p => ?_) (fun i x σ H' H'' hi p y => ?_) (fun σ H' p => ?_)
    · obtain ⟨u1, u2, u3, u4, _, z⟩ := p
      exact ⟨SqL.of (z.get (.tail _ (.tail _ (.tail _ (.head _))))), SqL.of (z.get (.tail _ (.tail _ (.head _)))), SqL.of (z.get (.tail _ (.head _))), SqL.of (z.get (.head _))⟩
    · obtain ⟨u1, u2, u3, u4, rfl, z⟩ := p
      obtain ⟨t, rfl, ht, rfl⟩ := y
      have w1 := z.alloc (.tup [.int (nth d.L i), .int (nth d.U i), .int (nth d.A i), .int (nth d.B i)]) ht
      walk_at "ev"
      refine r_at (atI_end (by rw [tab_len]; omega)) ?_
      rw [tab_len, Nat.add_sub_cancel, nth_tab (Nat.le_refl _)]
      walk_at "ev"
      rw [ifmax]
      refine r_app (w1.get (.tail _ (.tail _ (.tail _ (.tail _ (.tail _ (.tail _ (.head _)))))))) (smalllt' (by rw [List.length_map, tab_len]; omega)) ?_
      have w2 := w1.set 6 (.lst ((tab (floorF d.lo d.a) i).map V.int ++ [.int (max (nth d.L i) (floorF d.lo d.a i + nth d.A i))])) rfl (.inr rfl)
      walk_at "ev"
      refine r_at (atI_end (by rw [tab_len]; omega)) ?_
      rw [tab_len, Nat.add_sub_cancel, nth_tab (Nat.le_refl _)]
      walk_at "ev"
      rw [ifmin]
      refine r_app (w2.get (.tail _ (.tail _ (.tail _ (.tail _ (.tail _ (.head _))))))) (smalllt' (by rw [List.length_map, tab_len]; omega)) ?_
      have w3 := w2.set 5 (.lst ((tab (ceilF d.hi d.b) i).map V.int ++ [.int (min (nth d.U i) (ceilF d.hi d.b i + nth d.B i))])) rfl (.inr rfl)
      walk_at "ev"
      refine ⟨_, _, _, _, rfl, ?_⟩
      have w4 := w3.sub (.cons _ (List.Sublist.refl _)) (by simp)
      rw [tab_succ, tab_succ, List.map_append, List.map_append]
      exact w4
    · obtain ⟨u1, u2, u3, u4, rfl, z⟩ := p
      walk_at "ev"
      intro t k7
      have z7 := z.alloc (.tup [.ref f, .ref c]) k7
      exact k t f c _ (z7.fr0 (by simp)) (z7.pick [0, 6, 5] rfl)
def sp_has_row (K : PySem.W.Frag) : Sp := fun vs H Q _ => ∃ (p : Addr) (d : PD), vs = [.ref p] ∧ PlanAt K [] H p d ∧ d.Ok ∧ ∀ H', Fr [] H H' → Q (.bl (hasR d)) H'
theorem k_has_row (T : Tx fa fn K mg base) : Fk P w K mg base "has_row" ["plan"] 4 (sp_has_row K) s_has_row "has_row" := by
  refine T.fk 20 35 (q := "has_row") (st := s_has_row) sc_has_row (fun _ _ _ _ _ _ us hl => match us, hl with | [_], _ => rfl) (fun vs H Q E h => ?_) (fun cdv A outer s H vs Q E hr h => ?_)
  · obtain ⟨p, d, rfl, _⟩ := h
    rfl
  · obtain ⟨p, d, rfl, pd, ok, k⟩ := h
    have most := ok.most
    refine ⟨_, (pss_cons (ps_asg (pe_f (k__begun_sums T) hr (pa_cons (pv 0) pa_nil)) (pg_tup rfl (pgs_cons (pg_name (i := 1) sc_has_row.nd rfl (by first | exact Or.inl rfl | exact Or.inr rfl)) (pgs_cons (pg_name (i := 2) sc_has_row.nd rfl (by first | exact Or.inl rfl | exact Or.inr rfl)) pgs_nil))))
      (pss_one (ps_ret (pe_f (k_is_at_most T) hr (pa_cons (pv 1) (pa_cons (pv 2) pa_nil)))))), ?_⟩
    walk_at "ev0"
    refine ⟨p, d, rfl, pd, ok, fun t f c H1 f1 n1 => ?_⟩
    have ht := n1.1.2 _ (.head _)
    have hf := n1.1.2 _ (.tail _ (.head _))
    have hc := n1.1.2 _ (.tail _ (.tail _ (.head _)))
    walk_at "ev"
    refine ⟨f, c, begF d, begC d, rfl, hf, hc, by rw [begF, tab_len]; omega, fun H2 f2 => ?_⟩
    exact k _ (f1.trans f2)
end
set_option Elab.async false
set_option linter.all false
set_option maxRecDepth 100000
set_option maxHeartbeats 4000000
set_option exponentiation.threshold 2000
theorem sumF_take {ns : List Int} : ∀ {k : Nat}, k ≤ ns.length → sumF (nth ns) k = (ns.take k).sum
  | 0, _ => rfl
  | k + 1, h => by
    have h1 := sumF_take (ns := ns) (k := k) (by omega)
    have h2 : sumF (nth ns) (k + 1) = sumF (nth ns) k + nth ns k := rfl
    rw [h2, h1, take_sum (by omega)]
theorem RowS.most_sum {n : Nat} {lo hi a b X : Nat → Int} (r : RowS n lo hi a b X) : ∀ {s t : Nat}, s ≤ t → t ≤ n → X t - X s ≤ sumF b t - sumF b s
  | s, 0, h, _ => by
    obtain rfl : s = 0 := by omega
    omega
  | s, t + 1, h, hn => by
    by_cases c : s = t + 1
    · subst c
      omega
    · have := r.most_sum (s := s) (t := t) (by omega) (by omega)
      have := r.most t (by omega)
      have hb : sumF b (t + 1) = sumF b t + b t := rfl
      omega
theorem RowS.least_sum {n : Nat} {lo hi a b X : Nat → Int} (r : RowS n lo hi a b X) : ∀ {s t : Nat}, s ≤ t → t ≤ n → sumF a t - sumF a s ≤ X t - X s
  | s, 0, h, _ => by
    obtain rfl : s = 0 := by omega
    omega
  | s, t + 1, h, hn => by
    by_cases c : s = t + 1
    · subst c
      omega
    · have := r.least_sum (s := s) (t := t) (by omega) (by omega)
      have := r.least t (by omega)
      have hb : sumF a (t + 1) = sumF a t + a t := rfl
      omega
/-- g from n - i on, f before -/
def mixF (g f : Nat → Int) (n i : Nat) : List Int := (List.range (n + 1)).map fun t => if n ≤ t + i then g t else f t
theorem mix_len {g f : Nat → Int} {n i : Nat} : (mixF g f n i).length = n + 1 := by simp [mixF]
theorem nth_mix {g f : Nat → Int} {n i t : Nat} (h : t ≤ n) : nth (mixF g f n i) t = if n ≤ t + i then g t else f t := nth_range (by omega)
theorem mix_zero {g f : Nat → Int} {n : Nat} (h : g n = f n) : mixF g f n 0 = tab f n := by
  refine nth_ext (by rw [mix_len, tab_len]) fun t ht => ?_
  rw [mix_len] at ht
  rw [nth_mix (by omega), nth_tab (by omega)]
  split
  · rw [show t = n by omega, h]
  · rfl
theorem mix_all {g f : Nat → Int} {n : Nat} : mixF g f n n = tab g n := by
  refine nth_ext (by rw [mix_len, tab_len]) fun t ht => ?_
  rw [mix_len] at ht
  rw [nth_mix (by omega), nth_tab (by omega), if_pos (by omega)]
theorem mix_succ {g f : Nat → Int} {n i : Nat} (h : i < n) : (mixF g f n i).set (n - 1 - i) (g (n - 1 - i)) = mixF g f n (i + 1) := by
  refine nth_ext (by rw [List.length_set, mix_len, mix_len]) fun t ht => ?_
  rw [List.length_set, mix_len] at ht
  rw [nth_mix (by omega)]
  by_cases c : t = n - 1 - i
  · subst c
    rw [nth_set_at (by rw [mix_len]; omega), if_pos (by omega)]
  · rw [nth_set_ne c, nth_mix (by omega)]
    by_cases c2 : n ≤ t + i
    · rw [if_pos c2, if_pos (by omega)]
    · rw [if_neg c2, if_neg (by omega)]
/-- the differences of neighbours -/
def diffs (ns : List Int) : List Int := (List.range (ns.length - 1)).map fun i => nth ns (i + 1) - nth ns i
theorem diffs_len {ns : List Int} : (diffs ns).length = ns.length - 1 := by simp [diffs]
theorem cut_from1 (xs : List V) : cutV xs (some 1) none = xs.drop 1 := by
  unfold cutV
  rw [HT.sIx_none]
  cases xs with
  | nil => rfl
  | cons x r =>
    rw [show HT.sIx (x :: r).length 0 (some 1) = min 1 (x :: r).length from by
      unfold HT.sIx
      simp]
    rw [show min 1 (x :: r).length = 1 by simp]
    rw [List.take_of_length_le (by simp)]
theorem drop_sums (ns : List Int) : (sums0 ns).drop 1 = heights ns := by
  refine nth_ext (by rw [List.length_drop, sumsTo_len, hsTo_len]; omega) fun i hi => ?_
  rw [List.length_drop, sumsTo_len] at hi
  have e : nth ((sums0 ns).drop 1) i = nth (sums0 ns) (i + 1) := by
    unfold nth
    rw [List.getD_eq_getElem?_getD, List.getD_eq_getElem?_getD, List.getElem?_drop, Nat.add_comm]
  rw [e, nth_sumsTo (by omega), nth_hsTo (by omega)]
def fullL (d : PD) : List Int := diffs (topL d)
def bareL (d : PD) : List Int := diffs (botL d)
/-- whether a list of integers is a row -/
def rowB (d : PD) (ns : List Int) : Bool := decide (ns.length = d.L.length) && (leAll d.A ns && (leAll ns d.B && (leAll d.L (heights ns) && leAll (heights ns) d.U)))
section
variable {P : Program} {w : World} {K : PySem.W.Frag} {mg : Str → Option Value} {base : Heap}
def sp_conflict (K : PySem.W.Frag) : Sp := fun vs H Q _ => ∃ (p : Addr) (d : PD), vs = [.ref p] ∧ PlanAt K [] H p d ∧ d.Ok ∧ d.Has ∧ ∀ H', Fr [] H H' → Q .non H'
theorem k_conflict (T : Tx fa fn K mg base) : Fk P w K mg base "conflict" ["plan"] 3 (sp_conflict K) s_conflict "conflict" := by
  refine T.fk 21 36 (q := "conflict") (st := s_conflict) sc_conflict (fun _ _ _ _ _ _ us hl => match us, hl with | [_], _ => rfl) (fun vs H Q E h => ?_) (fun cdv A outer s H vs Q E hr h => ?_)
  · obtain ⟨p, d, rfl, _⟩ := h
    rfl
  · obtain ⟨p, d, rfl, pd, ok, ⟨X, rx⟩, k⟩ := h
    have one := ok.one
    have most := ok.most
    have lU := ok.lU
    have lA := ok.lA
    have lB := ok.lB
    refine ⟨_, (pss_cons (ps_par (i := 1) (j := 2) (by rfl) sc_conflict.nd rfl rfl (by decide) rfl rfl (pa_cons (pe_op op_cat (pe_lst (pa_cons pe_int pa_nil)) (pe_pr (pv 0) (k_Plan_low T) hr)) (pa_cons (pe_op op_cat (pe_lst (pa_cons pe_int pa_nil)) (pe_pr (pv 0) (k_Plan_high T) hr)) pa_nil)) (by rfl))
      (pss_cons (ps_par (i := 3) (j := 4) (by rfl) sc_conflict.nd rfl rfl (by decide) rfl rfl (pa_cons (pe_f (k_sums_from_zero T) hr (pa_cons (pe_pr (pv 0) (k_Plan_least T) hr) pa_nil)) (pa_cons (pe_f (k_sums_from_zero T) hr (pa_cons (pe_pr (pv 0) (k_Plan_most T) hr) pa_nil)) pa_nil)) (by rfl))
      (pss_cons (ps_for PassesOwn.never rfl (pi_range1 (by rfl) (T.fr 13) (pa_cons (pe_callB (cr_lenP (k_Plan___len__ T) (hr.mono (by decide))) (by rfl) (T.fr 6) (by decide +kernel) (pa_cons (pv 0) pa_nil)) pa_nil)) (pg_name (i := 5) sc_conflict.nd rfl (by first | exact Or.inl rfl | exact Or.inr rfl)) (pss_one (ps_for PassesOwn.never rfl (pi_range2 (by rfl) (T.fr 13) (pa_cons (pe_op op_add (pv 5) pe_int) (pa_cons (pe_op op_add (pe_callB (cr_lenP (k_Plan___len__ T) (hr.mono (by decide))) (by rfl) (T.fr 6) (by decide +kernel) (pa_cons (pv 0) pa_nil)) pe_int) pa_nil))) (pg_name (i := 6) sc_conflict.nd rfl (by first | exact Or.inl rfl | exact Or.inr rfl)) (pss_cons (ps_set (i := 7) sc_conflict.nd rfl (by first | exact Or.inl rfl | exact Or.inr rfl) (pe_cmpR op_gt (pe_op op_sub (pe_ix ix_list (pv 1) (pv 6) (fun _ _ => rfl)) (pe_ix ix_list (pv 2) (pv 5) (fun _ _ => rfl))) (pe_op op_sub (pe_ix ix_list (pv 4) (pv 6) (fun _ _ => rfl)) (pe_ix ix_list (pv 4) (pv 5) (fun _ _ => rfl))) (nomark _)))
      (pss_cons (ps_set (i := 8) sc_conflict.nd rfl (by first | exact Or.inl rfl | exact Or.inr rfl) (pe_cmpR op_gt (pe_op op_sub (pe_op op_add (pe_ix ix_list (pv 1) (pv 5) (fun _ _ => rfl)) (pe_ix ix_list (pv 3) (pv 6) (fun _ _ => rfl))) (pe_ix ix_list (pv 3) (pv 5) (fun _ _ => rfl))) (pe_ix ix_list (pv 2) (pv 6) (fun _ _ => rfl)) (nomark _)))
      (pss_one (ps_if (PW.pt (pw_or (pt_val (pv 7)) (pw_or1 (pt_val (pv 8))))) (pss_one (ps_ret (pe_tup (pa_cons (pv 5) (pa_cons (pv 6) pa_nil))))) pss_nil)))))))
      (pss_one (ps_ret pe_non))))), ?_⟩
    walk_at "ev0"
    intro s1 k1
    have z1 := (Z.start0 H).alloc (.lst [.int 0]) k1
    walk_at "ev"
    refine r_pl (pd.mono (z1.fr0 (by simp))) fun s2 k2 => ?_
    have z2 := z1.alloc (.lst (d.L.map V.int)) k2
    walk_at "ev"
    rw [show [V.int 0] ++ d.L.map V.int = (0 :: d.L).map V.int from rfl]
    intro s3 k3
    have z3 := z2.alloc (.lst ((0 :: d.L).map V.int)) k3
    walk_at "ev"
    intro s4 k4
    have z4 := z3.alloc (.lst [.int 0]) k4
    walk_at "ev"
    refine r_pl (pd.mono (z4.fr0 (by simp))) fun s5 k5 => ?_
    have z5 := z4.alloc (.lst (d.U.map V.int)) k5
    walk_at "ev"
    rw [show [V.int 0] ++ d.U.map V.int = (0 :: d.U).map V.int from rfl]
    intro s6 k6
    have z6 := z5.alloc (.lst ((0 :: d.U).map V.int)) k6
    walk_at "ev"
    refine r_pl (pd.mono (z6.fr0 (by simp))) fun s7 k7 => ?_
    have z7 := z6.alloc (.lst (d.A.map V.int)) k7
    walk_at "ev"
    refine ⟨s7, d.A, rfl, z7.get (.head _), by omega, fun s8 H8 k8 f8 g8 => ?_⟩
    have z8 := z7.comp f8 k8 g8
    clear f8 k8 g8
    walk_at "ev"
    refine r_pl (pd.mono (z8.fr0 (by simp))) fun s9 k9 => ?_
    have z9 := z8.alloc (.lst (d.B.map V.int)) k9
    walk_at "ev"
    refine ⟨s9, d.B, rfl, z9.get (.head _), by omega, fun s10 H10 k10 f10 g10 => ?_⟩
    have z10 := z9.comp f10 k10 g10
    clear f10 k10 g10
    have zz := z10.sel (N := [(s3, .lst ((0 :: d.L).map V.int)), (s6, .lst ((0 :: d.U).map V.int)), (s8, .lst ((sums0 d.A).map V.int)), (s10, .lst ((sums0 d.B).map V.int))]) (by simp) [7, 4, 2, 0] rfl
    simp only [List.map_cons, List.map_nil] at zz
    clear z1 z2 z3 z4 z5 z6 z7 z8 z9 z10 k1 k2 k3 k4 k5 k6 k7 k9
    walk_at "ev"
    have pz := pd.mono (zz.fr0 (by simp))
    have fz := zz.fr0 (by simp)
    have g3 := zz.get (.head _)
    have g6 := zz.get (.tail _ (.head _))
    have g8 := zz.get (.tail _ (.tail _ (.head _)))
    have g10 := zz.get (.tail _ (.tail _ (.tail _ (.head _))))
    refine r_lenD pz (by omega) ?_
    walk_at "ev"
    refine ⟨by omega, by omega, ?_⟩
    refine for_it (walk_range (lo := 0)) (fun i σ H' => ∃ u1 u2 u3 u4 : Option V, σ = [some (.ref p), some (.ref s3), some (.ref s6), some (.ref s8), some (.ref s10), u1, u2, u3, u4] ∧ H' = H10) ⟨none, none, none, none, rfl, rfl⟩ (fun _ _ _ _ _ => trivial) (fun i x σ H' H'' hi p y => ?_) (fun σ H' p => ?_)
    · obtain ⟨u1, u2, u3, u4, rfl, rfl⟩ := p
      obtain ⟨rfl, rfl⟩ := y
      have hi' : i < d.L.length := by omega
      walk_at "ev"
      refine r_lenD pz (by omega) ?_
      walk_at "ev"
      refine ⟨⟨by omega, by omega, by omega, by omega⟩, ?_⟩
      refine for_it (walk_range (lo := 0 + (i : Int) + 1)) (fun i2 σ H' => ∃ u2 u3 u4 : Option V, σ = [some (.ref p), some (.ref s3), some (.ref s6), some (.ref s8), some (.ref s10), some (.int (0 + (i : Int))), u2, u3, u4] ∧ H' = H'') ⟨u2, u3, u4, rfl, rfl⟩ (fun _ _ _ _ _ => trivial) (fun j x σ H1' H1'' hj p y => ?_) (fun σ H' p => ?_)
      · obtain ⟨u2, u3, u4, rfl, rfl⟩ := p
        obtain ⟨rfl, rfl⟩ := y
        have et : 0 + (i : Int) + 1 + (j : Int) = ((i + 1 + j : Nat) : Int) := by omega
        have es : 0 + (i : Int) = ((i : Nat) : Int) := by omega
        have hj' : i + 1 + j ≤ d.L.length := by omega
        simp only [et]
        simp only [es]
        have c1 := rx.most_sum (s := i) (t := i + 1 + j) (by omega) hj'
        have c2 := rx.least_sum (s := i) (t := i + 1 + j) (by omega) hj'
        have c3 := rx.low (i + 1 + j) hj'
        have c4 := rx.high i (by omega)
        have c5 := rx.low i (by omega)
        have c6 := rx.high (i + 1 + j) hj'
        have e1 : ∀ k, k ≤ d.L.length → sumF d.b k = (d.B.take k).sum := fun k hk => sumF_take (by omega)
        have e2 : ∀ k, k ≤ d.L.length → sumF d.a k = (d.A.take k).sum := fun k hk => sumF_take (by omega)
        rw [e1 _ hj', e1 _ (by omega)] at c1
        rw [e2 _ hj', e2 _ (by omega)] at c2
        unfold PD.lo at c3 c5
        unfold PD.hi at c4 c6
        walk_at "ev"
        refine r_at (atN (ns := 0 :: d.L) (by simp; omega)) ?_
        walk_at "ev"
        refine r_at (atN (ns := 0 :: d.U) (by simp; omega)) ?_
        walk_at "ev"
        refine r_at (atN (by rw [sumsTo_len]; omega)) ?_
        rw [nth_sumsTo (by omega)]
        walk_at "ev"
        refine r_at (atN (by rw [sumsTo_len]; omega)) ?_
        rw [nth_sumsTo (by omega)]
        walk_at "ev"
        refine r_at (atN (ns := 0 :: d.L) (by simp; omega)) ?_
        walk_at "ev"
        refine r_at (atN (by rw [sumsTo_len]; omega)) ?_
        rw [nth_sumsTo (by omega)]
        walk_at "ev"
        refine r_at (atN (by rw [sumsTo_len]; omega)) ?_
        rw [nth_sumsTo (by omega)]
        walk_at "ev"
        refine r_at (atN (ns := 0 :: d.U) (by simp; omega)) ?_
        walk_at "ev"
        refine r_iteZ (by omega) ?_
        walk_at "ev"
        refine r_iteZ (by omega) ?_
        walk_at "ev"
        exact ⟨_, _, _, rfl, rfl⟩
      · obtain ⟨u2, u3, u4, rfl, rfl⟩ := p
        exact ⟨_, _, _, _, rfl, rfl⟩
    · obtain ⟨u1, u2, u3, u4, rfl, rfl⟩ := p
      walk_at "ev"
      exact k _ fz
def sp_check_rows (K : PySem.W.Frag) : Sp := fun vs H Q _ => ∃ (p : Addr) (d : PD), vs = [.ref p] ∧ PlanAt K [] H p d ∧ d.Ok ∧ d.Has ∧ ∀ H', Fr [] H H' → Q .non H'
theorem k_check_rows (T : Tx fa fn K mg base) : Fk P w K mg base "check_rows" ["plan"] 5 (sp_check_rows K) s_check_rows "check_rows" := by
  refine T.fk 22 37 (q := "check_rows") (st := s_check_rows) sc_check_rows (fun _ _ _ _ _ _ us hl => match us, hl with | [_], _ => rfl) (fun vs H Q E h => ?_) (fun cdv A outer s H vs Q E hr h => ?_)
  · obtain ⟨p, d, rfl, _⟩ := h
    rfl
  · obtain ⟨p, d, rfl, pd, ok, has, k⟩ := h
    refine ⟨_, (pss_one (ps_if (pt_not (pt_val (pe_f (k_has_row T) hr (pa_cons (pv 0) pa_nil)))) (pss_cons (ps_asg (pe_f (k_conflict T) hr (pa_cons (pv 0) pa_nil)) (pg_tup rfl (pgs_cons (pg_name (i := 1) sc_check_rows.nd rfl (by first | exact Or.inl rfl | exact Or.inr rfl)) (pgs_cons (pg_name (i := 2) sc_check_rows.nd rfl (by first | exact Or.inl rfl | exact Or.inr rfl)) pgs_nil))))
      (pss_one ps_never)) pss_nil)), ?_⟩
    walk_at "ev0"
    refine ⟨p, d, rfl, pd, ok, fun H1 f1 => ?_⟩
    rw [has.r]
    walk_at "ev"
    exact k _ f1
def sp_sum_ranges (K : PySem.W.Frag) : Sp := fun vs H Q _ => ∃ (p : Addr) (d : PD), vs = [.ref p] ∧ PlanAt K [] H p d ∧ d.Ok ∧ d.Has ∧ ∀ t f c H', Fr [] H H' → New H H' [(t, .tup [.ref f, .ref c]), (f, .lst ((botL d).map V.int)), (c, .lst ((topL d).map V.int))] → Q (.ref t) H'
theorem k_sum_ranges (T : Tx fa fn K mg base) : Fk P w K mg base "sum_ranges" ["plan"] 6 (sp_sum_ranges K) s_sum_ranges "sum_ranges" := by
  refine T.fk 23 38 (q := "sum_ranges") (st := s_sum_ranges) sc_sum_ranges (fun _ _ _ _ _ _ us hl => match us, hl with | [_], _ => rfl) (fun vs H Q E h => ?_) (fun cdv A outer s H vs Q E hr h => ?_)
  · obtain ⟨p, d, rfl, _⟩ := h
    rfl
  · obtain ⟨p, d, rfl, pd, ok, has, k⟩ := h
    have one := ok.one
    have most := ok.most
    have lA := ok.lA
    have lB := ok.lB
    refine ⟨_, (pss_cons (ps_expr (pe_f (k_check_rows T) hr (pa_cons (pv 0) pa_nil)))
      (pss_cons (ps_asg (pe_f (k__begun_sums T) hr (pa_cons (pv 0) pa_nil)) (pg_tup rfl (pgs_cons (pg_name (i := 1) sc_sum_ranges.nd rfl (by first | exact Or.inl rfl | exact Or.inr rfl)) (pgs_cons (pg_name (i := 2) sc_sum_ranges.nd rfl (by first | exact Or.inl rfl | exact Or.inr rfl)) pgs_nil))))
      (pss_cons (ps_par (i := 3) (j := 4) (by rfl) sc_sum_ranges.nd rfl rfl (by decide) rfl rfl (pa_cons (pe_pr (pv 0) (k_Plan_least T) hr) (pa_cons (pe_pr (pv 0) (k_Plan_most T) hr) pa_nil)) (by rfl))
      (pss_cons (ps_for PassesOwn.never rfl (pi_range3 (by rfl) (T.fr 13) (pa_cons (pe_op op_sub (pe_callB (cr_lenP (k_Plan___len__ T) (hr.mono (by decide))) (by rfl) (T.fr 6) (by decide +kernel) (pa_cons (pv 0) pa_nil)) pe_int) (pa_cons (pe_un un_neg pe_int) (pa_cons (pe_un un_neg pe_int) pa_nil)))) (pg_name (i := 5) sc_sum_ranges.nd rfl (by first | exact Or.inl rfl | exact Or.inr rfl)) (pss_cons (ps_asg (pe_callB (call_max2 rfl) (by rfl) (T.fr 16) (by decide +kernel) (pa_cons (pe_ix ix_list (pv 1) (pv 5) (fun _ _ => rfl)) (pa_cons (pe_op op_sub (pe_ix ix_list (pv 1) (pe_op op_add (pv 5) pe_int) (fun _ _ => rfl)) (pe_ix ix_seq (pv 4) (pv 5) (fun _ _ => rfl))) pa_nil))) (pg_sub (pv 1) (pv 5) set_list))
      (pss_one (ps_asg (pe_callB (call_min2 rfl) (by rfl) (T.fr 15) (by decide +kernel) (pa_cons (pe_ix ix_list (pv 2) (pv 5) (fun _ _ => rfl)) (pa_cons (pe_op op_sub (pe_ix ix_list (pv 2) (pe_op op_add (pv 5) pe_int) (fun _ _ => rfl)) (pe_ix ix_list (pv 3) (pv 5) (fun _ _ => rfl))) pa_nil))) (pg_sub (pv 2) (pv 5) set_list)))))
      (pss_one (ps_ret (pe_tup (pa_cons (pv 1) (pa_cons (pv 2) pa_nil))))))))), ?_⟩
    walk_at "ev0"
    refine ⟨p, d, rfl, pd, ok, has, fun H1 f1 => ?_⟩
    have z1 := (Z.start0 H).same f1
    walk_at "ev"
    refine ⟨p, d, rfl, pd.mono (z1.fr0 (by simp)), ok, fun t0 f c H2 f2 n2 => ?_⟩
    have z2 := z1.call0 f2 n2
    simp only [List.map_cons, List.map_nil, List.cons_append, List.nil_append] at z2
    walk_at "ev"
    refine r_pl (pd.mono (z2.fr0 (by simp))) fun l1 k3 => ?_
    have z3 := z2.alloc (.lst (d.A.map V.int)) k3
    walk_at "ev"
    refine r_pl (pd.mono (z3.fr0 (by simp))) fun l2 k4 => ?_
    have z4 := z3.alloc (.lst (d.B.map V.int)) k4
    walk_at "ev"
    refine r_lenD (pd.mono (z4.fr0 (by simp))) (by omega) ?_
    walk_at "ev"
    refine r_exr3 (i := (d.L.length : Int) - 1) (j := -1) ⟨by omega, by omega, by omega, by omega⟩ ?_
    have bF : botF d.lo d.a d.b d.L.length d.L.length = floorF d.lo d.a d.L.length := botF_n
    have bC : topF d.hi d.a d.b d.L.length d.L.length = ceilF d.hi d.b d.L.length := topF_n
    have hcnt : ((d.L.length : Int) - 1 - -1).toNat = d.L.length := by omega
    rw [hcnt]
    refine for_it (walk_rangeC (lo := (d.L.length : Int) - 1) (c := -1) (n := d.L.length)) (fun i σ H' => ∃ u : Option V, σ = [some (.ref p), some (.ref f), some (.ref c), some (.ref l1), some (.ref l2), u] ∧
      Z H H' [(2, l2, .lst (d.B.map V.int)), (2, l1, .lst (d.A.map V.int)), (2, t0, .tup [.ref f, .ref c]), (2, f, .lst ((mixF (botF d.lo d.a d.b d.L.length) (floorF d.lo d.a) d.L.length i).map V.int)), (2, c, .lst ((mixF (topF d.hi d.a d.b d.L.length) (ceilF d.hi d.b) d.L.length i).map V.int))]) ⟨none, rfl, ?_⟩ (fun _ _ _ _ _ => trivial) (fun i x σ H' H'' hi p y => ?_) (fun σ H' p => ?_)
    · rw [mix_zero bF, mix_zero bC]
      exact z4
    · obtain ⟨u, rfl, z⟩ := p
      obtain ⟨rfl, rfl⟩ := y
      have et : (d.L.length : Int) - 1 + (i : Int) * -1 = ((d.L.length - 1 - i : Nat) : Int) := by omega
      have et1 : ((d.L.length - 1 - i : Nat) : Int) + 1 = ((d.L.length - i : Nat) : Int) := by omega
      simp only [et]
      have m1 : d.L.length - 1 - i + 1 = d.L.length - i := by omega
      have eF := botF_at (lo := d.lo) (a := d.a) (b := d.b) (n := d.L.length) (t := d.L.length - 1 - i) (by omega)
      have eC := topF_at (hi := d.hi) (a := d.a) (b := d.b) (n := d.L.length) (t := d.L.length - 1 - i) (by omega)
      rw [m1] at eF eC
      walk_at "ev"
      refine r_at (atN (by rw [mix_len]; omega)) ?_
      rw [nth_mix (by omega), if_neg (by omega)]
      walk_at "ev"
      rw [et1]
      refine r_at (atN (by rw [mix_len]; omega)) ?_
      rw [nth_mix (by omega), if_pos (by omega)]
      walk_at "ev"
      refine r_at (atN (by omega)) ?_
      walk_at "ev"
      rw [ifmax]
      refine r_ixn (ixN_at (by rw [List.length_map, mix_len]; omega)) ?_
      rw [← List.map_set, show max (floorF d.lo d.a (d.L.length - 1 - i)) (botF d.lo d.a d.b d.L.length (d.L.length - i) - nth d.B (d.L.length - 1 - i)) = botF d.lo d.a d.b d.L.length (d.L.length - 1 - i) from eF.symm, mix_succ hi]
      have w1 := z.set 3 (.lst ((mixF (botF d.lo d.a d.b d.L.length) (floorF d.lo d.a) d.L.length (i + 1)).map V.int)) rfl (.inr rfl)
      walk_at "ev"
      refine r_at (atN (by rw [mix_len]; omega)) ?_
      rw [nth_mix (by omega), if_neg (by omega)]
      walk_at "ev"
      rw [et1]
      refine r_at (atN (by rw [mix_len]; omega)) ?_
      rw [nth_mix (by omega), if_pos (by omega)]
      walk_at "ev"
      refine r_at (atN (by omega)) ?_
      walk_at "ev"
      rw [ifmin]
      refine r_ixn (ixN_at (by rw [List.length_map, mix_len]; omega)) ?_
      rw [← List.map_set, show min (ceilF d.hi d.b (d.L.length - 1 - i)) (topF d.hi d.a d.b d.L.length (d.L.length - i) - nth d.A (d.L.length - 1 - i)) = topF d.hi d.a d.b d.L.length (d.L.length - 1 - i) from eC.symm, mix_succ hi]
      have w2 := w1.set 4 (.lst ((mixF (topF d.hi d.a d.b d.L.length) (ceilF d.hi d.b) d.L.length (i + 1)).map V.int)) rfl (.inr rfl)
      exact ⟨_, rfl, w2⟩
    · obtain ⟨u, rfl, z⟩ := p
      rw [mix_all, mix_all] at z
      walk_at "ev"
      intro t9 k9
      have z9 := z.alloc (.tup [.ref f, .ref c]) k9
      exact k t9 f c _ (z9.fr0 (by simp)) (z9.pick [0, 4, 5] rfl)
def sp_entries_of (K : PySem.W.Frag) : Sp := fun vs H Q _ => ∃ (a : Addr) (ns : List Int), vs = [.ref a] ∧ H a = some (.lst (ns.map V.int)) ∧ (1 ≤ ns.length ∧ ns.length ≤ 10000) ∧ ∀ p H', H p = none → Fr [] H H' → H' p = some (.lst ((diffs ns).map V.int)) → Q (.ref p) H'
theorem k_entries_of (T : Tx fa fn K mg base) : Fk P w K mg base "entries_of" ["sums"] 1 (sp_entries_of K) s_entries_of "entries_of" := by
  refine T.fk 24 39 (q := "entries_of") (st := s_entries_of) sc_entries_of (fun _ _ _ _ _ _ us hl => match us, hl with | [_], _ => rfl) (fun vs H Q E h => ?_) (fun cdv A outer s H vs Q E hr h => ?_)
  · obtain ⟨a, ns, rfl, _⟩ := h
    rfl
  · obtain ⟨a, ns, rfl, ha, hn, k⟩ := h
    refine ⟨_, (pss_one (ps_ret (pe_lc (own := [("before", 1), ("after", 2)]) (tt := tYes) (g := (gTup K 2 (gCons (gName 1) (gCons (gName 2) gNil)))) (te := (tOp (rI0 fun i j => .int (i - j)) (tVar 2) (tVar 1))) rfl sc_entries_of.nd (pi_zip (by rfl) (T.fr 10) (pa_cons (pv 0) (pa_cons (pe_slice sl_list (pv 0) (po_some pe_int) po_none) pa_nil))) (blkOk_by (N := ["sums", "before", "after"]) (sc := defScope s_entries_of) (by decide +kernel)) (fun _ _ _ _ _ => (pg_tup rfl (pgs_cons (pg_name (i := 1) sc_entries_of.nd rfl (by first | exact Or.inl rfl | exact Or.inr rfl)) (pgs_cons (pg_name (i := 2) sc_entries_of.nd rfl (by first | exact Or.inl rfl | exact Or.inr rfl)) pgs_nil)))) (fun _ _ _ _ _ => pts_nil) (fun _ _ _ _ _ => (pe_op op_sub (pv 2) (pv 1)))))), ?_⟩
    walk_at "ev0"
    rw [cut_from1, ← List.map_drop]
    intro s1 k1
    have z1 := (Z.start0 H).alloc (.lst ((ns.drop 1).map V.int)) k1
    have ha1 := z1.keep ha (by simp)
    have hs1 := z1.get (.head _)
    have dl : (ns.drop 1).length = ns.length - 1 := by rw [List.length_drop]
    have dn : ∀ i, nth (ns.drop 1) i = nth ns (i + 1) := fun i => by
      unfold nth
      rw [List.getD_eq_getElem?_getD, List.getD_eq_getElem?_getD, List.getElem?_drop, Nat.add_comm]
    walk_at "ev"
    refine lc_pure (walk_zip (xs := ns.map V.int) (ys := (ns.drop 1).map V.int) (n := ns.length - 1) (by simp)) (fun i => .int (nth ns (i + 1) - nth ns i)) (by omega) (fun H' e => ⟨e.sql (SqL.of ha1) nin, e.sql (SqL.of hs1) nin⟩)
      (fun i H' x H'' y => by obtain ⟨T, x1, x2, _, h0, rfl, _⟩ := y; exact (Fr.refl _).new h0) (fun i x H' H'' R hi e y kR => ?_) (fun D H' hD e hD' => ?_)
    · obtain ⟨T, x1, x2, rfl, h0, rfl, g1, g2⟩ := y
      obtain rfl := nth_at g1
      obtain rfl := nth_at g2
      rw [← dn i] at kR
      walk_at "ev"
      refine ⟨rfl, ?_⟩
      walk_at "ev"
      exact kR _ (Fr.refl _)
    · have f1 := z1.fr0 (by simp)
      exact k D H' (f1.none hD) (f1.trans e) (by unfold diffs; rw [List.map_map]; exact hD')
def sp_fullest (K : PySem.W.Frag) : Sp := fun vs H Q _ => ∃ (p : Addr) (d : PD), vs = [.ref p] ∧ PlanAt K [] H p d ∧ d.Ok ∧ d.Has ∧ ∀ r H', H r = none → Fr [] H H' → H' r = some (.lst ((fullL d).map V.int)) → Q (.ref r) H'
theorem k_fullest (T : Tx fa fn K mg base) : Fk P w K mg base "fullest" ["plan"] 7 (sp_fullest K) s_fullest "fullest" := by
  refine T.fk 25 40 (q := "fullest") (st := s_fullest) sc_fullest (fun _ _ _ _ _ _ us hl => match us, hl with | [_], _ => rfl) (fun vs H Q E h => ?_) (fun cdv A outer s H vs Q E hr h => ?_)
  · obtain ⟨p, d, rfl, _⟩ := h
    rfl
  · obtain ⟨p, d, rfl, pd, ok, has, k⟩ := h
    have most := ok.most
    refine ⟨_, (pss_cons (ps_set (i := 1) sc_fullest.nd rfl (by first | exact Or.inl rfl | exact Or.inr rfl) (pe_ix ix_tup (pe_f (k_sum_ranges T) hr (pa_cons (pv 0) pa_nil)) pe_int (fun _ _ => rfl)))
      (pss_one (ps_ret (pe_f (k_entries_of T) hr (pa_cons (pv 1) pa_nil))))), ?_⟩
    walk_at "ev0"
    refine ⟨p, d, rfl, pd, ok, has, fun t f c H1 f1 n1 => ?_⟩
    have ht := n1.1.2 _ (.head _)
    have hc := n1.1.2 _ (.tail _ (.tail _ (.head _)))
    walk_at "ev"
    refine ⟨c, topL d, rfl, hc, by rw [topL, tab_len]; omega, fun r H2 h2 f2 g2 => ?_⟩
    exact k r H2 (f1.none h2) (f1.trans f2) g2
def sp_emptiest (K : PySem.W.Frag) : Sp := fun vs H Q _ => ∃ (p : Addr) (d : PD), vs = [.ref p] ∧ PlanAt K [] H p d ∧ d.Ok ∧ d.Has ∧ ∀ r H', H r = none → Fr [] H H' → H' r = some (.lst ((bareL d).map V.int)) → Q (.ref r) H'
theorem k_emptiest (T : Tx fa fn K mg base) : Fk P w K mg base "emptiest" ["plan"] 7 (sp_emptiest K) s_emptiest "emptiest" := by
  refine T.fk 26 41 (q := "emptiest") (st := s_emptiest) sc_emptiest (fun _ _ _ _ _ _ us hl => match us, hl with | [_], _ => rfl) (fun vs H Q E h => ?_) (fun cdv A outer s H vs Q E hr h => ?_)
  · obtain ⟨p, d, rfl, _⟩ := h
    rfl
  · obtain ⟨p, d, rfl, pd, ok, has, k⟩ := h
    have most := ok.most
    refine ⟨_, (pss_cons (ps_set (i := 1) sc_emptiest.nd rfl (by first | exact Or.inl rfl | exact Or.inr rfl) (pe_ix ix_tup (pe_f (k_sum_ranges T) hr (pa_cons (pv 0) pa_nil)) pe_int (fun _ _ => rfl)))
      (pss_one (ps_ret (pe_f (k_entries_of T) hr (pa_cons (pv 1) pa_nil))))), ?_⟩
    walk_at "ev0"
    refine ⟨p, d, rfl, pd, ok, has, fun t f c H1 f1 n1 => ?_⟩
    have ht := n1.1.2 _ (.head _)
    have hf := n1.1.2 _ (.tail _ (.head _))
    walk_at "ev"
    refine ⟨f, botL d, rfl, hf, by rw [botL, tab_len]; omega, fun r H2 h2 f2 g2 => ?_⟩
    exact k r H2 (f1.none h2) (f1.trans f2) g2
def sp_sums_of (K : PySem.W.Frag) : Sp := fun vs H Q _ => ∃ (a : Addr) (ns : List Int), vs = [.ref a] ∧ H a = some (.lst (ns.map V.int)) ∧ (1 ≤ ns.length ∧ ns.length ≤ 200) ∧ ∀ p H', H p = none → Fr [] H H' → H' p = some (.lst ((heights ns).map V.int)) → Q (.ref p) H'
theorem k_sums_of (T : Tx fa fn K mg base) : Fk P w K mg base "sums_of" ["row"] 3 (sp_sums_of K) s_sums_of "sums_of" := by
  refine T.fk 17 32 (q := "sums_of") (st := s_sums_of) sc_sums_of (fun _ _ _ _ _ _ us hl => match us, hl with | [_], _ => rfl) (fun vs H Q E h => ?_) (fun cdv A outer s H vs Q E hr h => ?_)
  · obtain ⟨a, ns, rfl, _⟩ := h
    rfl
  · obtain ⟨a, ns, rfl, ha, hn, k⟩ := h
    refine ⟨_, (pss_cons (ps_if (pt_not (pt_val (pe_f (k_is_whole_list T) hr (pa_cons (pv 0) pa_nil)))) (pss_one ps_never) pss_nil)
      (pss_one (ps_ret (pe_slice sl_list (pe_f (k_sums_from_zero T) hr (pa_cons (pv 0) pa_nil)) (po_some pe_int) po_none)))), ?_⟩
    walk_at "ev0"
    refine ⟨a, ns, rfl, ha, hn, fun H1 f1 => ?_⟩
    walk_at "ev"
    refine ⟨a, ns, rfl, f1 _ _ nin ha, by omega, fun p H2 h2 f2 g2 => ?_⟩
    walk_at "ev"
    rw [cut_from1, ← List.map_drop, drop_sums]
    intro r k3
    have z3 := (Z.start0 H2).alloc (.lst ((heights ns).map V.int)) k3
    have f12 := f1.trans f2
    exact k r _ (f12.none k3) (f12.trans (z3.fr0 (by simp))) (z3.get (.head _))
def sp_is_row (K : PySem.W.Frag) : Sp := fun vs H Q _ => ∃ (p a : Addr) (d : PD) (ns : List Int), vs = [.ref p, .ref a] ∧ PlanAt K [] H p d ∧ d.Ok ∧ H a = some (.lst (ns.map V.int)) ∧ (1 ≤ ns.length ∧ ns.length ≤ 200) ∧ ∀ H', Fr [] H H' → Q (.bl (rowB d ns)) H'
theorem k_is_row (T : Tx fa fn K mg base) : Fk P w K mg base "is_row" ["plan", "thing"] 4 (sp_is_row K) s_is_row "is_row" := by
  refine T.fk 18 33 (q := "is_row") (st := s_is_row) sc_is_row (fun _ _ _ _ _ _ us hl => match us, hl with | [_, _], _ => rfl) (fun vs H Q E h => ?_) (fun cdv A outer s H vs Q E hr h => ?_)
  · obtain ⟨p, a, d, ns, rfl, _⟩ := h
    rfl
  · obtain ⟨p, a, d, ns, rfl, pd, ok, ha, hn, k⟩ := h
    have most := ok.most
    refine ⟨_, (pss_cons (ps_if (PW.pt (pw_or (pt_not (pt_val (pe_f (k_is_whole_list T) hr (pa_cons (pv 1) pa_nil)))) (pw_or1 (pt_cmpR op_ne (pe_callB call_len_seq (by rfl) (T.fr 6) (by decide +kernel) (pa_cons (pv 1) pa_nil)) (pe_callB (cr_lenP (k_Plan___len__ T) (hr.mono (by decide))) (by rfl) (T.fr 6) (by decide +kernel) (pa_cons (pv 0) pa_nil)) (nomark _))))) (pss_one (ps_ret pe_bl)) pss_nil)
      (pss_cons (ps_set (i := 2) sc_is_row.nd rfl (by first | exact Or.inl rfl | exact Or.inr rfl) (pe_f (k_sums_of T) hr (pa_cons (pv 1) pa_nil)))
      (pss_one (ps_ret (pe_and (pe_f (k_is_at_most T) hr (pa_cons (pe_pr (pv 0) (k_Plan_least T) hr) (pa_cons (pv 1) pa_nil))) (pe_and (pe_f (k_is_at_most T) hr (pa_cons (pv 1) (pa_cons (pe_pr (pv 0) (k_Plan_most T) hr) pa_nil))) (pe_and (pe_f (k_is_at_most T) hr (pa_cons (pe_pr (pv 0) (k_Plan_low T) hr) (pa_cons (pv 2) pa_nil))) (pe_one (pe_f (k_is_at_most T) hr (pa_cons (pv 2) (pa_cons (pe_pr (pv 0) (k_Plan_high T) hr) pa_nil))))))))))), ?_⟩
    walk_at "ev0"
    refine ⟨a, ns, rfl, ha, hn, fun H1 f1 => ?_⟩
    have ha1 := f1 _ _ nin ha
    have pd1 := pd.mono f1
    walk_at "ev"
    refine r_lenD pd1 (by omega) ?_
    walk_at "ev"
    unfold rowB at k
    refine r_iteN (fun c => ?_) (fun c => ?_)
    · have c' : ¬ ns.length = d.L.length := fun e => c (by rw [List.length_map, e])
      rw [decide_eq_false c'] at k
      walk_at "ev"
      exact k _ f1
    · have c' : ns.length = d.L.length := by
        injection c with c
        rw [List.length_map] at c
        omega
      rw [decide_eq_true c'] at k
      have lU := ok.lU
      have lA := ok.lA
      have lB := ok.lB
      walk_at "ev"
      refine ⟨a, ns, rfl, ha1, hn, fun sm H2 h2 f2 g2 => ?_⟩
      have z2 := (Z.start0 H1).comp f2 h2 g2
      clear f2 h2
      have hl : (heights ns).length = ns.length := hsTo_len
      walk_at "ev"
      refine r_pl (pd1.mono (z2.fr0 (by simp))) fun l3 k3 => ?_
      have z3 := z2.alloc (.lst (d.A.map V.int)) k3
      walk_at "ev"
      refine ⟨l3, a, d.A, ns, rfl, z3.get (.head _), z3.keep ha1 (by simp), by omega, fun H4 f4 => ?_⟩
      have z4 := z3.same f4
      refine ⟨_, rfl, ?_⟩
      refine ite2 (fun c1 => ?_) (fun c1 => ?_)
      rotate_left
      · rw [Bool.not_eq_true _ |>.mp c1] at k
        exact k _ (f1.trans (z4.fr0 (by simp)))
      rw [c1] at k
      walk_at "ev"
      refine r_pl (pd1.mono (z4.fr0 (by simp))) fun l5 k5 => ?_
      have z5 := z4.alloc (.lst (d.B.map V.int)) k5
      walk_at "ev"
      refine ⟨a, l5, ns, d.B, rfl, z5.keep ha1 (by simp), z5.get (.head _), by omega, fun H6 f6 => ?_⟩
      have z6 := z5.same f6
      refine ⟨_, rfl, ?_⟩
      refine ite2 (fun c2 => ?_) (fun c2 => ?_)
      rotate_left
      · rw [Bool.not_eq_true _ |>.mp c2] at k
        exact k _ (f1.trans (z6.fr0 (by simp)))
      rw [c2] at k
      walk_at "ev"
      refine r_pl (pd1.mono (z6.fr0 (by simp))) fun l7 k7 => ?_
      have z7 := z6.alloc (.lst (d.L.map V.int)) k7
      walk_at "ev"
      refine ⟨l7, sm, d.L, heights ns, rfl, z7.get (.head _), z7.get (.tail _ (.tail _ (.tail _ (.head _)))), by omega, fun H8 f8 => ?_⟩
      have z8 := z7.same f8
      refine ⟨_, rfl, ?_⟩
      refine ite2 (fun c3 => ?_) (fun c3 => ?_)
      rotate_left
      · rw [Bool.not_eq_true _ |>.mp c3] at k
        exact k _ (f1.trans (z8.fr0 (by simp)))
      rw [c3] at k
      walk_at "ev"
      refine r_pl (pd1.mono (z8.fr0 (by simp))) fun l9 k9 => ?_
      have z9 := z8.alloc (.lst (d.U.map V.int)) k9
      walk_at "ev"
      refine ⟨sm, l9, heights ns, d.U, rfl, z9.get (.tail _ (.tail _ (.tail _ (.tail _ (.head _))))), z9.get (.head _), by omega, fun H10 f10 => ?_⟩
      exact k _ (f1.trans ((z9.same f10).fr0 (by simp)))
end
set_option Elab.async false
set_option linter.all false
set_option maxRecDepth 100000
set_option maxHeartbeats 4000000
set_option exponentiation.threshold 2000
def rowOf (X : Nat → Int) (n : Nat) : List Int := (List.range n).map fun i => X (i + 1) - X i
theorem rowOf_len {X : Nat → Int} {n : Nat} : (rowOf X n).length = n := by simp [rowOf]
theorem nth_rowOf {X : Nat → Int} {n i : Nat} (h : i < n) : nth (rowOf X n) i = X (i + 1) - X i := nth_range h
theorem rowOf_take {X : Nat → Int} {n : Nat} (h0 : X 0 = 0) : ∀ {t : Nat}, t ≤ n → ((rowOf X n).take t).sum = X t
  | 0, _ => h0.symm
  | t + 1, h => by
    rw [take_sum (by rw [rowOf_len]; omega), rowOf_take h0 (by omega), nth_rowOf (by omega)]
    omega
theorem diffs_tab (f : Nat → Int) (n : Nat) : diffs (tab f n) = rowOf f n := by
  refine nth_ext (by rw [diffs_len, tab_len, rowOf_len]; omega) fun i hi => ?_
  rw [diffs_len, tab_len] at hi
  have e : nth (diffs (tab f n)) i = nth (tab f n) (i + 1) - nth (tab f n) i := nth_range (by rw [tab_len]; omega)
  rw [e, nth_tab (by omega), nth_tab (by omega), nth_rowOf (by omega)]
theorem fullL_is (d : PD) : fullL d = rowOf (topF d.hi d.a d.b d.L.length) d.L.length := diffs_tab _ _
theorem bareL_is (d : PD) : bareL d = rowOf (botF d.lo d.a d.b d.L.length) d.L.length := diffs_tab _ _
theorem fullL_len {d : PD} : (fullL d).length = d.L.length := by rw [fullL_is, rowOf_len]
theorem bareL_len {d : PD} : (bareL d).length = d.L.length := by rw [bareL_is, rowOf_len]
def sumX (ns : List Int) (t : Nat) : Int := (ns.take t).sum
theorem sumX_succ {ns : List Int} {t : Nat} (h : t < ns.length) : sumX ns (t + 1) = sumX ns t + nth ns t := take_sum h
theorem PD.Has.topR {d : PD} (ok : d.Ok) (h : d.Has) : d.RowX (topF d.hi d.a d.b d.L.length) := by
  obtain ⟨X, r⟩ := h
  exact r.topR d.hi0 ok.abF
theorem PD.Has.botR {d : PD} (ok : d.Ok) (h : d.Has) : d.RowX (botF d.lo d.a d.b d.L.length) := by
  obtain ⟨X, r⟩ := h
  exact r.botR d.lo0 ok.abF
/-- a list is a row: by its sums -/
theorem row_of_X {d : PD} (ok : d.Ok) {ns : List Int} (hl : ns.length = d.L.length) (r : d.RowX (sumX ns)) : rowB d ns = true := by
  have lU := ok.lU
  have lA := ok.lA
  have lB := ok.lB
  unfold rowB
  rw [decide_eq_true hl, Bool.true_and, leAll_iff.mpr fun i h1 h2 => ?_, Bool.true_and, leAll_iff.mpr fun i h1 h2 => ?_, Bool.true_and, leAll_iff.mpr fun i h1 h2 => ?_, Bool.true_and]
  · refine leAll_iff.mpr fun i h1 h2 => ?_
    have := r.high (i + 1) (by omega)
    rw [nth_hsTo (by omega)]
    exact this
  · have := r.low (i + 1) (by omega)
    rw [nth_hsTo (by omega)]
    exact this
  · have h3 := r.most i (by omega)
    rw [sumX_succ h1] at h3
    have : d.b i = nth d.B i := rfl
    omega
  · have h3 := r.least i (by omega)
    rw [sumX_succ (by omega)] at h3
    have : d.a i = nth d.A i := rfl
    omega
theorem row_congr {d : PD} {X Y : Nat → Int} (e : ∀ t, t ≤ d.L.length → X t = Y t) (r : d.RowX X) : d.RowX Y :=
  ⟨by rw [← e 0 (Nat.zero_le _)]; exact r.zero, fun t h => by rw [← e t h]; exact r.low t h, fun t h => by rw [← e t h]; exact r.high t h, fun t h => by rw [← e t (by omega), ← e (t + 1) (by omega)]; exact r.least t h, fun t h => by rw [← e t (by omega), ← e (t + 1) (by omega)]; exact r.most t h⟩
theorem full_sumX {d : PD} (ok : d.Ok) (h : d.Has) {t : Nat} (ht : t ≤ d.L.length) : sumX (fullL d) t = topF d.hi d.a d.b d.L.length t := by
  rw [fullL_is]
  exact rowOf_take (h.topR ok).zero ht
theorem RawOk.has {ns : List Int} {d : PD} (r : RawOk ns d) (h1 : 1 ≤ ns.length) : d.Has := by
  have lL := r.lL
  have ps : ∀ i, psum ns i = sumX ns (i + 1) := fun i => rfl
  refine ⟨sumX ns, rfl, fun t ht => ?_, fun t ht => ?_, fun t ht => ?_, fun t ht => ?_⟩
  · cases t with
    | zero => exact Int.le_refl _
    | succ t => exact r.l t (by omega)
  · cases t with
    | zero => exact Int.le_refl _
    | succ t => exact r.u t (by omega)
  · have := r.a t (by omega)
    rw [sumX_succ (by omega)]
    have : d.a t = nth d.A t := rfl
    omega
  · have := r.b t (by omega)
    rw [sumX_succ (by omega)]
    have : d.b t = nth d.B t := rfl
    omega
set_option Elab.async false
set_option linter.all false
set_option maxRecDepth 100000
set_option maxHeartbeats 4000000
set_option exponentiation.threshold 2000
set_option Elab.async false
set_option linter.all false
set_option maxRecDepth 100000
set_option maxHeartbeats 4000000
set_option exponentiation.threshold 2000
def Sm (x : Int) : Prop := -(2 ^ 180) ≤ x ∧ x ≤ 2 ^ 180
structure PD.Sm (d : PD) : Prop where
  l : ∀ x ∈ d.L, Ev.Sm x
  u : ∀ x ∈ d.U, Ev.Sm x
  a : ∀ x ∈ d.A, Ev.Sm x
  b : ∀ x ∈ d.B, Ev.Sm x
theorem sum_small {M : Int} : ∀ {l : List Int}, (∀ x ∈ l, -M ≤ x ∧ x ≤ M) → -((l.length : Int) * M) ≤ l.sum ∧ l.sum ≤ (l.length : Int) * M
  | [], _ => by simp
  | x :: r, h => by
    have := sum_small (l := r) fun y hy => h y (.tail _ hy)
    have := h x (.head _)
    rw [List.sum_cons, List.length_cons, show ((r.length + 1 : Nat) : Int) * M = (r.length : Int) * M + M by rw [Int.natCast_add, Int.add_mul]; simp]
    omega
theorem mem_nth {ns : List Int} {x : Int} (h : x ∈ ns) : ∃ i, i < ns.length ∧ nth ns i = x := by
  obtain ⟨i, hi, e⟩ := List.mem_iff_getElem.mp h
  exact ⟨i, hi, by rw [← getElem_nth hi]; exact e⟩
theorem RawOk.sm {ns : List Int} {d : PD} (r : RawOk ns d) (hn : ns.length ≤ 200) : d.Sm := by
  have ps : ∀ i, i < ns.length → -(2 ^ 120) ≤ psum ns i ∧ psum ns i ≤ 2 ^ 120 := fun i hi => by
    have h := sum_small (M := 2 ^ 110) (l := ns.take (i + 1)) fun x hx => r.e x (List.mem_of_mem_take hx)
    have hl : (ns.take (i + 1)).length ≤ 200 := by
      rw [List.length_take]
      omega
    have e : (200 : Int) * 2 ^ 110 ≤ 2 ^ 120 := by decide +kernel
    have : ((ns.take (i + 1)).length : Int) * 2 ^ 110 ≤ 200 * 2 ^ 110 := Int.mul_le_mul_of_nonneg_right (by omega) (by decide +kernel)
    unfold psum
    omega
  have e1 : (2 : Int) ^ 120 + 2 ^ 160 ≤ 2 ^ 180 := by decide +kernel
  have e2 : (2 : Int) ^ 110 + 2 ^ 160 ≤ 2 ^ 180 := by decide +kernel
  refine ⟨fun x hx => ?_, fun x hx => ?_, fun x hx => ?_, fun x hx => ?_⟩ <;> obtain ⟨i, hi, rfl⟩ := mem_nth hx
  · rw [r.lL] at hi
    have := ps i hi
    have := r.l i hi
    have := r.u i hi
    have := r.w i hi
    unfold Ev.Sm
    omega
  · rw [r.lU] at hi
    have := ps i hi
    have := r.l i hi
    have := r.u i hi
    have := r.w i hi
    unfold Ev.Sm
    omega
  · rw [r.lA] at hi
    have := r.e _ (nth_mem hi)
    have := r.a i hi
    have := r.b i hi
    have := r.v i hi
    unfold Ev.Sm
    omega
  · rw [r.lB] at hi
    have := r.e _ (nth_mem hi)
    have := r.a i hi
    have := r.b i hi
    have := r.v i hi
    unfold Ev.Sm
    omega
theorem PlanAt.add {K : PySem.W.Frag} {J : List Addr} {H : Hp} {p a : Addr} {d : PD} (h : PlanAt K J H p d) (ha : H a = none) : PlanAt K (a :: J) H p d := by
  obtain ⟨dx, l1, l2, l3, l4, h0, ⟨h1, h2, h3, h4⟩, n0, n1, n2, n3, n4⟩ := h.ex
  have no : ∀ {x : Addr} {o : HO}, H x = some o → x ∉ J → x ∉ a :: J := fun e n m => by
    rcases List.mem_cons.mp m with q | m
    · rw [q, ha] at e
      cases e
    · exact n m
  exact ⟨dx, l1, l2, l3, l4, h0, ⟨h1, h2, h3, h4⟩, no h0 n0, no h1 n1, no h2 n2, no h3 n3, no h4 n4⟩
theorem r_neI {K : PySem.W.Frag} {H : Hp} {Q : VK} {a b : Addr} {ns ms : List Int} (ha : SqL K H a (ns.map V.int)) (hb : SqL K H b (ms.map V.int)) (q : Q (.bl (!decide (ns = ms))) H) : rNeD K (.ref a) (.ref b) H Q := by
  refine ⟨.list (ns.map PyData.int), .list (ms.map PyData.int), .lst ha (dpAll_ints ns), .lst hb (dpAll_ints ms), shaped_ints ns, shaped_ints ms, ?_⟩
  rw [PyData.eqv, PySem.W.ked_eqvAll]
  exact q
theorem nj {a j : Addr} (h : a ≠ j) : a ∉ [j] := fun m => h (List.mem_singleton.mp m)
set_option Elab.async false
set_option linter.all false
set_option maxRecDepth 100000
set_option maxHeartbeats 4000000
set_option exponentiation.threshold 2000
def runT (r : Run) : List V := [.int (r.f : Nat), .int (r.t : Nat), r.v]
theorem atV {xs : List V} {i : Nat} (h : i < xs.length) : atI xs (i : Int) = some (itemV xs i) := atI_nat (by rw [itemV, List.getD_eq_getElem?_getD, List.getElem?_eq_getElem h] <;> rfl)
theorem itemV_mem {xs : List V} {i : Nat} (h : i < xs.length) : itemV xs i ∈ xs := by
  rw [itemV, List.getD_eq_getElem?_getD, List.getElem?_eq_getElem h]
  exact List.getElem_mem h
section
variable {P : Program} {w : World} {K : PySem.W.Frag} {mg : Str → Option Value} {base : Heap}
def sp_entry_at (K : PySem.W.Frag) : Sp := fun vs H Q _ => ∃ a b c : Int, vs = [.int a, .int b, .int c] ∧ Q (.int (min b (max a c))) H
theorem k_entry_at (T : Tx fa fn K mg base) : Fk P w K mg base "entry_at" ["least", "most", "level"] 1 (sp_entry_at K) s_entry_at "entry_at" := by
  refine T.fk 6 17 (q := "entry_at") (st := s_entry_at) sc_entry_at (fun _ _ _ _ _ _ us hl => match us, hl with | [_, _, _], _ => rfl) (fun vs H Q E h => ?_) (fun cdv A outer s H vs Q E hr h => ?_)
  · obtain ⟨a, b, c, rfl, _⟩ := h
    rfl
  · obtain ⟨a, b, c, rfl, k⟩ := h
    refine ⟨_, (pss_one (ps_ret (pe_callB (call_min2 rfl) (by rfl) (T.fr 15) (by decide +kernel) (pa_cons (pv 1) (pa_cons (pe_callB (call_max2 rfl) (by rfl) (T.fr 16) (by decide +kernel) (pa_cons (pv 0) (pa_cons (pv 2) pa_nil))) pa_nil))))), ?_⟩
    walk_at "ev"
    rw [ifmax, ifmin]
    exact k
def sp_runs_of (K : PySem.W.Frag) : Sp := fun vs H Q _ => ∃ (a : Addr) (xs : List V), vs = [.ref a] ∧ H a = some (.lst xs) ∧ (1 ≤ xs.length ∧ xs.length ≤ 10000) ∧ (∀ x ∈ xs, ∀ y ∈ xs, scal x y = true) ∧
  ∀ p H' ts, H p = none → Fr [] H H' → H' p = some (.lst (ts.map V.ref)) → TL H' ts ((runsV xs).map runT) → (∀ t ∈ ts, H t = none) → Q (.ref p) H'
theorem k_runs_of (T : Tx fa fn K mg base) : Fk P w K mg base "runs_of" ["items"] 3 (sp_runs_of K) s_runs_of "runs_of" := by
  refine T.fk 5 14 (q := "runs_of") (st := s_runs_of) sc_runs_of (fun _ _ _ _ _ _ us hl => match us, hl with | [_], _ => rfl) (fun vs H Q E h => ?_) (fun cdv A outer s H vs Q E hr h => ?_)
  · obtain ⟨a, xs, rfl, _⟩ := h
    rfl
  · obtain ⟨a, xs, rfl, ha, ⟨h1, h2⟩, hs, k⟩ := h
    refine ⟨_, (pss_cons (ps_par (i := 1) (j := 2) (by rfl) sc_runs_of.nd rfl rfl (by decide) rfl rfl (pa_cons (pe_lst pa_nil) (pa_cons pe_int pa_nil)) (by rfl))
      (pss_cons (ps_for PassesOwn.never rfl (pi_range2 (by rfl) (T.fr 13) (pa_cons pe_int (pa_cons (pe_op op_add (pe_callB call_len_seq (by rfl) (T.fr 6) (by decide +kernel) (pa_cons (pv 0) pa_nil)) pe_int) pa_nil))) (pg_name (i := 3) sc_runs_of.nd rfl (by first | exact Or.inl rfl | exact Or.inr rfl)) (pss_one (ps_if (PW.pt (pw_or (pt_cmpR op_eq (pv 3) (pe_callB call_len_seq (by rfl) (T.fr 6) (by decide +kernel) (pa_cons (pv 0) pa_nil)) (nomark _)) (pw_or1 (pt_cmpR op_ne (pe_ix ix_list (pv 0) (pv 3) (fun _ _ => rfl)) (pe_ix ix_list (pv 0) (pv 2) (fun _ _ => rfl)) (nomark _))))) (pss_cons (ps_expr (pe_bm PySem.F.plainAttrs_list PySem.F.slot_list_append PySem.F.type_list_append mt_append (pv 1) (pa_cons (pe_tup (pa_cons (pv 2) (pa_cons (pv 3) (pa_cons (pe_ix ix_list (pv 0) (pv 2) (fun _ _ => rfl)) pa_nil)))) pa_nil)))
      (pss_one (ps_set (i := 2) sc_runs_of.nd rfl (by first | exact Or.inl rfl | exact Or.inr rfl) (pv 3)))) pss_nil)))
      (pss_one (ps_ret (pv 1))))), ?_⟩
    walk_at "ev0"
    intro rl k1
    have z1 := (Z.start0 H).alloc (.lst []) k1
    have ha1 := z1.keep ha (by simp)
    walk_at "ev"
    refine ⟨⟨by omega, by omega, by omega, by omega⟩, ?_⟩
    rw [show ((xs.length : Int) + 1 - 1).toNat = xs.length by omega]
    refine for_it (walk_range (lo := 1)) (fun i σ H' => ∃ (u : Option V) (ts : List Addr), σ = [some (.ref a), some (.ref rl), some (.int ((runsTo xs i).2 : Nat)), u] ∧ Z H H' [(2, rl, .lst (ts.map V.ref))] ∧ TL H' ts ((runsTo xs i).1.map runT) ∧ (∀ t ∈ ts, H t = none)) ⟨none, [], rfl, z1, TL.nil _, fun _ m => nomatch m⟩ (fun _ _ _ _ _ => trivial) (fun i x σ H' H'' hi p y => ?_) (fun σ H' p => ?_)
    · obtain ⟨u, ts, rfl, z, tl, nw⟩ := p
      obtain ⟨rfl, rfl⟩ := y
      have v := runsTo_inv xs i (by omega)
      have hf := v.le
      have e1 : (1 : Int) + (i : Int) = ((i + 1 : Nat) : Int) := by omega
      simp only [e1]
      have ha2 := z.keep ha (by simp)
      walk_at "ev"
      refine r_ite (fun c1 => ?_) (fun c1 => ?_)
      · have c1' : i + 1 = xs.length := by
          injection c1 with c1
          omega
        have cc : i + 1 = xs.length ∨ itemV xs (i + 1) ≠ itemV xs (runsTo xs i).2 := .inl c1'
        walk_at "ev"
        refine r_at (atV (by omega)) ?_
        walk_at "ev"
        intro t kt
        have w1 := z.alloc (.tup [.int ((runsTo xs i).2 : Nat), .int (i + 1 : Nat), itemV xs (runsTo xs i).2]) kt
        have tl1 := tl.more (o := .tup [.int ((runsTo xs i).2 : Nat), .int (i + 1 : Nat), itemV xs (runsTo xs i).2]) kt
        have tl2 := (tl1.add (v := [.int ((runsTo xs i).2 : Nat), .int (i + 1 : Nat), itemV xs (runsTo xs i).2]) (w1.get (.head _))).put (o := .lst (ts.map V.ref ++ [.ref t])) (w1.get (.tail _ (.head _)))
        have len : ts.length ≤ i := by
          have := tl.1
          rw [List.length_map] at this
          have := runs_count v.runs
          have := v.len
          omega
        have n0 := z.none kt
        walk_at "ev"
        have w2 := w1.set 1 (.lst (ts.map V.ref ++ [.ref t])) rfl (.inr rfl)
        have er : runsTo xs (i + 1) = ((runsTo xs i).1 ++ [⟨(runsTo xs i).2, i + 1, itemV xs (runsTo xs i).2⟩], i + 1) := if_pos cc
        rw [er]
        refine ⟨_, ts ++ [t], rfl, ?_, ?_, fun q m => ?_⟩
        · rw [List.map_append]
          exact w2.sub (.cons _ (List.Sublist.refl _)) (by simp)
        · rw [List.map_append]
          exact tl2
        · rcases List.mem_append.mp m with m | m
          · exact nw q m
          · rw [List.mem_singleton.mp m]
            exact n0
      · have c1' : ¬ i + 1 = xs.length := fun e => c1 (by rw [e])
        walk_at "ev"
        refine r_at (atV (by omega)) ?_
        walk_at "ev"
        refine r_at (atV (by omega)) ?_
        walk_at "ev"
        refine r_ne (hs _ (itemV_mem (by omega)) _ (itemV_mem (by omega))) ?_
        walk_at "ev"
        refine r_iteN (fun c2 => ?_) (fun c2 => ?_)
        · have cc : i + 1 = xs.length ∨ itemV xs (i + 1) ≠ itemV xs (runsTo xs i).2 := .inr c2
          walk_at "ev"
          refine r_at (atV (by omega)) ?_
          walk_at "ev"
          intro t kt
          have w1 := z.alloc (.tup [.int ((runsTo xs i).2 : Nat), .int (i + 1 : Nat), itemV xs (runsTo xs i).2]) kt
          have tl1 := tl.more (o := .tup [.int ((runsTo xs i).2 : Nat), .int (i + 1 : Nat), itemV xs (runsTo xs i).2]) kt
          have tl2 := (tl1.add (v := [.int ((runsTo xs i).2 : Nat), .int (i + 1 : Nat), itemV xs (runsTo xs i).2]) (w1.get (.head _))).put (o := .lst (ts.map V.ref ++ [.ref t])) (w1.get (.tail _ (.head _)))
          have len : ts.length ≤ i := by
            have := tl.1
            rw [List.length_map] at this
            have := runs_count v.runs
            have := v.len
            omega
          have n0 := z.none kt
          walk_at "ev"
          have w2 := w1.set 1 (.lst (ts.map V.ref ++ [.ref t])) rfl (.inr rfl)
          have er : runsTo xs (i + 1) = ((runsTo xs i).1 ++ [⟨(runsTo xs i).2, i + 1, itemV xs (runsTo xs i).2⟩], i + 1) := if_pos cc
          rw [er]
          refine ⟨_, ts ++ [t], rfl, ?_, ?_, fun q m => ?_⟩
          · rw [List.map_append]
            exact w2.sub (.cons _ (List.Sublist.refl _)) (by simp)
          · rw [List.map_append]
            exact tl2
          · rcases List.mem_append.mp m with m | m
            · exact nw q m
            · rw [List.mem_singleton.mp m]
              exact n0
        · have er : runsTo xs (i + 1) = runsTo xs i := if_neg fun e => e.elim c1' fun e => e c2
          walk_at "ev"
          rw [er]
          exact ⟨_, ts, rfl, z, tl, nw⟩
    · obtain ⟨u, ts, rfl, z, tl, nw⟩ := p
      walk_at "ev"
      exact k _ _ ts (z.fresh (2, rl, _) (.head _) rfl) (z.fr0 (by simp)) (z.get (.head _)) tl nw
end
set_option Elab.async false
set_option linter.all false
set_option maxRecDepth 100000
set_option maxHeartbeats 4000000
set_option exponentiation.threshold 2000
structure BndAt (H : Hp) (bt : Addr) (d : PD) : Prop where
  ex : ∃ l1 l2 l3 l4, H bt = some (.tup [.ref l1, .ref l2, .ref l3, .ref l4]) ∧ H l1 = some (.lst ((0 :: d.L).map V.int)) ∧ H l2 = some (.lst ((0 :: d.U).map V.int)) ∧ H l3 = some (.lst (d.A.map V.int)) ∧ H l4 = some (.lst (d.B.map V.int))
theorem BndAt.mono {H H' : Hp} {bt : Addr} {d : PD} (h : BndAt H bt d) (f : Fr [] H H') : BndAt H' bt d := by
  obtain ⟨l1, l2, l3, l4, h0, h1, h2, h3, h4⟩ := h.ex
  exact ⟨l1, l2, l3, l4, f _ _ nin h0, f _ _ nin h1, f _ _ nin h2, f _ _ nin h3, f _ _ nin h4⟩
def eF (d : PD) (c : Int) (i : Nat) : Int := clampF d.a d.b i c
def inB (d : PD) (f m : Nat) (L R : Bool) (c : Int) : List Bool := (List.range m).map fun k => backB d.lo d.hi (eF d c) f m L R (m - k)
theorem inB_len {d : PD} {f m : Nat} {L R : Bool} {c : Int} : (inB d f m L R c).length = m := by simp [inB]
def eL (d : PD) (f m : Nat) (c : Int) : List Int := (List.range m).map fun k => eF d c (f + k)
theorem eL_len {d : PD} {f m : Nat} {c : Int} : (eL d f m c).length = m := by simp [eL]
theorem nth_eL {d : PD} {f m k : Nat} {c : Int} (h : k < m) : nth (eL d f m c) k = eF d c (f + k) := nth_range h
def cameV (d : PD) (f : Nat) (L : Bool) (c : Int) (k : Nat) : List V := [.bl (decide (dpO d.lo d.hi (eF d c) f L k < dpN d.lo d.hi (eF d c) f L k + d.lo (f + k + 1))), .bl (decide (dpO d.lo d.hi (eF d c) f L k - d.hi (f + k + 1) < dpN d.lo d.hi (eF d c) f L k))]
theorem atI_lastV {xs : List V} {v : V} : atI (xs ++ [v]) (-1) = some v := by
  unfold atI
  rw [List.length_append, List.length_singleton, ixN_end (by omega), Nat.add_sub_cancel]
  show (xs ++ [v])[xs.length]? = some v
  rw [List.getElem?_concat_length]
def foundL (d : PD) (f m : Nat) (L R : Bool) (c : Int) (j : Nat) : List Bool := (List.range (j + 1)).map fun k => backB d.lo d.hi (eF d c) f m L R (k + 1)
theorem foundL_len {d : PD} {f m : Nat} {L R : Bool} {c : Int} {j : Nat} : (foundL d f m L R c j).length = j + 1 := by simp [foundL]
theorem foundL_succ {d : PD} {f m : Nat} {L R : Bool} {c : Int} {j : Nat} : foundL d f m L R c (j + 1) = foundL d f m L R c j ++ [backB d.lo d.hi (eF d c) f m L R (j + 2)] := by
  unfold foundL
  rw [List.range_succ (n := j + 1), List.map_append]
  rfl
theorem foundL_rev {d : PD} {f m : Nat} {L R : Bool} {c : Int} (h : 1 ≤ m) : (foundL d f m L R c (m - 1)).reverse = inB d f m L R c := by
  refine List.ext_getElem (by rw [List.length_reverse, foundL_len, inB_len]; omega) fun i h1 h2 => ?_
  rw [inB_len] at h2
  rw [List.getElem_reverse]
  simp only [foundL, inB, List.getElem_map, List.getElem_range, List.length_map, List.length_range]
  rw [show m - 1 + 1 - 1 - i + 1 = m - i by omega]
theorem foundL_end {d : PD} {f m : Nat} {L R : Bool} {c : Int} {j : Nat} : atI ((foundL d f m L R c j).map V.bl) (-1) = some (.bl (backB d.lo d.hi (eF d c) f m L R (j + 1))) := by
  have e : foundL d f m L R c j = (List.range j).map (fun k => backB d.lo d.hi (eF d c) f m L R (k + 1)) ++ [backB d.lo d.hi (eF d c) f m L R (j + 1)] := by
    unfold foundL
    rw [List.range_succ, List.map_append]
    rfl
  rw [e, List.map_append]
  exact atI_lastV
theorem lo_at {d : PD} {t : Nat} (h : t ≤ d.L.length) : atI ((0 :: d.L).map V.int) (t : Int) = some (.int (d.lo t)) := atN (ns := 0 :: d.L) (by rw [List.length_cons]; omega)
theorem hi_at {d : PD} (ok : d.Ok) {t : Nat} (h : t ≤ d.L.length) : atI ((0 :: d.U).map V.int) (t : Int) = some (.int (d.hi t)) := atN (ns := 0 :: d.U) (by rw [List.length_cons, ok.lU]; omega)
section
variable {P : Program} {w : World} {K : PySem.W.Frag} {mg : Str → Option Value} {base : Heap}
def sp__inside_part (K : PySem.W.Frag) : Sp := fun vs H Q _ => ∃ (bt pt : Addr) (d : PD) (f m : Nat) (L R : Bool) (c : Int), vs = [.ref bt, .ref pt, .int c] ∧ BndAt H bt d ∧ d.Ok ∧ H pt = some (.tup [.int f, .int (f + m : Nat), .bl L, .bl R]) ∧ (1 ≤ m ∧ f + m ≤ d.L.length) ∧
  ∀ p H', H p = none → Fr [] H H' → H' p = some (.lst ((inB d f m L R c).map V.bl)) → Q (.ref p) H'
theorem k__inside_part (T : Tx fa fn K mg base) : Fk P w K mg base "_inside_part" ["bounds", "part", "rate"] 2 (sp__inside_part K) s__inside_part "_inside_part" := by
  refine T.fk 28 44 (q := "_inside_part") (st := s__inside_part) sc__inside_part (fun _ _ _ _ _ _ us hl => match us, hl with | [_, _, _], _ => rfl) (fun vs H Q E h => ?_) (fun cdv A outer s H vs Q E hr h => ?_)
  · obtain ⟨bt, pt, d, f, m, L, R, c, rfl, _⟩ := h
    rfl
  · obtain ⟨bt, pt, d, f, m, L, R, c, rfl, bd, ok, hp, ⟨m1, m2⟩, k⟩ := h
    obtain ⟨l1, l2, l3, l4, h0, h1, h2, h3, h4⟩ := bd.ex
    have lA := ok.lA
    have lB := ok.lB
    have most := ok.most
    refine ⟨_, (pss_cons (ps_asg (pv 0) (pg_tup rfl (pgs_cons (pg_name (i := 3) sc__inside_part.nd rfl (by first | exact Or.inl rfl | exact Or.inr rfl)) (pgs_cons (pg_name (i := 4) sc__inside_part.nd rfl (by first | exact Or.inl rfl | exact Or.inr rfl)) (pgs_cons (pg_name (i := 5) sc__inside_part.nd rfl (by first | exact Or.inl rfl | exact Or.inr rfl)) (pgs_cons (pg_name (i := 6) sc__inside_part.nd rfl (by first | exact Or.inl rfl | exact Or.inr rfl)) pgs_nil))))))
      (pss_cons (ps_asg (pv 1) (pg_tup rfl (pgs_cons (pg_name (i := 7) sc__inside_part.nd rfl (by first | exact Or.inl rfl | exact Or.inr rfl)) (pgs_cons (pg_name (i := 8) sc__inside_part.nd rfl (by first | exact Or.inl rfl | exact Or.inr rfl)) (pgs_cons (pg_name (i := 9) sc__inside_part.nd rfl (by first | exact Or.inl rfl | exact Or.inr rfl)) (pgs_cons (pg_name (i := 10) sc__inside_part.nd rfl (by first | exact Or.inl rfl | exact Or.inr rfl)) pgs_nil))))))
      (pss_cons (ps_setLc (i := 11) (own := [("at", 22)]) (tt := tYes) (te := (tCall (sp_entry_at K) [] E0 (tCons (tOp (rIxL K) (tVar 5) (tVar 22)) (tCons (tOp (rIxL K) (tVar 6) (tVar 22)) (tCons (tVar 2) tNil))))) rfl sc__inside_part.nd rfl rfl (sw_true rfl rfl rfl (by decide +kernel)) (pi_range2 (by rfl) (T.fr 13) (pa_cons (pv 7) (pa_cons (pv 8) pa_nil))) (blkOk_by (N := ["bounds", "part", "rate", "low", "high", "least", "most", "first", "last", "left", "right", "entries", "outside", "inside", "came_from", "time", "leaves", "enters", "within", "found", "from_outside", "from_inside", "at"]) (sc := defScope s__inside_part) (by decide +kernel)) (fun _ _ _ _ _ => (pg_name (i := 22) sc__inside_part.nd rfl (by first | exact Or.inl rfl | exact Or.inr rfl))) (fun _ _ _ _ _ => pts_nil) (fun _ _ _ _ _ => (pe_f (k_entry_at T) hr (pa_cons (pe_ix ix_list (pv 5) (pv 22) (fun _ _ => rfl)) (pa_cons (pe_ix ix_list (pv 6) (pv 22) (fun _ _ => rfl)) (pa_cons (pv 2) pa_nil))))))
      (Evl.pss_cut (ps_asg (pe_ifExp (pt_val (pv 9)) (pe_tup (pa_cons (pe_ix ix_list (pv 3) (pv 7) (fun _ _ => rfl)) (pa_cons pe_int pa_nil))) (pe_tup (pa_cons pe_int (pa_cons (pe_un un_neg (pe_ix ix_list (pv 4) (pv 7) (fun _ _ => rfl))) pa_nil)))) (pg_tup rfl (pgs_cons (pg_name (i := 12) sc__inside_part.nd rfl (by first | exact Or.inl rfl | exact Or.inr rfl)) (pgs_cons (pg_name (i := 13) sc__inside_part.nd rfl (by first | exact Or.inl rfl | exact Or.inr rfl)) pgs_nil))))
      (pss_cons (ps_aug (i := 13) sc__inside_part.nd rfl (by first | exact Or.inl rfl | exact Or.inr rfl) (pe_ix ix_list (pv 11) pe_int (fun _ _ => rfl)) ip_sub)
      (pss_cons (ps_set (i := 14) sc__inside_part.nd rfl (by first | exact Or.inl rfl | exact Or.inr rfl) (pe_lst pa_nil))
      (pss_cons (ps_for PassesOwn.never rfl (pi_range2 (by rfl) (T.fr 13) (pa_cons (pe_op op_add (pv 7) pe_int) (pa_cons (pv 8) pa_nil))) (pg_name (i := 15) sc__inside_part.nd rfl (by first | exact Or.inl rfl | exact Or.inr rfl)) (pss_cons (ps_par (i := 16) (j := 17) (by rfl) sc__inside_part.nd rfl rfl (by decide) rfl rfl (pa_cons (pe_op op_add (pv 13) (pe_ix ix_list (pv 3) (pv 15) (fun _ _ => rfl))) (pa_cons (pe_op op_sub (pv 12) (pe_ix ix_list (pv 4) (pv 15) (fun _ _ => rfl))) pa_nil)) (by rfl))
      (pss_cons (ps_expr (pe_bm PySem.F.plainAttrs_list PySem.F.slot_list_append PySem.F.type_list_append mt_append (pv 14) (pa_cons (pe_tup (pa_cons (pe_cmpR op_gt (pv 16) (pv 12) (nomark _)) (pa_cons (pe_cmpR op_gt (pv 13) (pv 17) (nomark _)) pa_nil))) pa_nil)))
      (pss_one (ps_par (i := 12) (j := 13) (by rfl) sc__inside_part.nd rfl rfl (by decide) rfl rfl (pa_cons (pe_callB (call_max2 rfl) (by rfl) (T.fr 16) (by decide +kernel) (pa_cons (pv 12) (pa_cons (pv 16) pa_nil))) (pa_cons (pe_op op_sub (pe_callB (call_max2 rfl) (by rfl) (T.fr 16) (by decide +kernel) (pa_cons (pv 13) (pa_cons (pv 17) pa_nil))) (pe_ix ix_list (pv 11) (pe_op op_sub (pv 15) (pv 7)) (fun _ _ => rfl))) pa_nil)) (by rfl))))))
      (Evl.pss_cut (ps_set (i := 18) sc__inside_part.nd rfl (by first | exact Or.inl rfl | exact Or.inr rfl) (pe_ifExp (pt_val (pv 10)) (pe_cmpR op_gt (pv 13) (pe_op op_sub (pv 12) (pe_ix ix_list (pv 4) (pv 8) (fun _ _ => rfl))) (nomark _)) (pe_cmpR op_gt (pe_op op_add (pv 13) (pe_ix ix_list (pv 3) (pv 8) (fun _ _ => rfl))) (pv 12) (nomark _))))
      (pss_cons (ps_set (i := 19) sc__inside_part.nd rfl (by first | exact Or.inl rfl | exact Or.inr rfl) (pe_lst (pa_cons (pv 18) pa_nil)))
      (pss_cons (ps_for PassesOwn.never rfl (pi_list (pe_revL (pv 14))) (pg_tup rfl (pgs_cons (pg_name (i := 20) sc__inside_part.nd rfl (by first | exact Or.inl rfl | exact Or.inr rfl)) (pgs_cons (pg_name (i := 21) sc__inside_part.nd rfl (by first | exact Or.inl rfl | exact Or.inr rfl)) pgs_nil))) (pss_one (ps_expr (pe_bm PySem.F.plainAttrs_list PySem.F.slot_list_append PySem.F.type_list_append mt_append (pv 19) (pa_cons (pe_ifExp (pt_val (pe_ix ix_list (pv 19) (pe_un un_neg pe_int) (fun _ _ => rfl))) (pv 21) (pv 20)) pa_nil)))))
      (pss_one (ps_ret (pe_revL (pv 19)))))))))))))), ?_⟩
    walk_at "ev0"
    refine ⟨⟨by omega, by omega, by omega, by omega⟩, ?_⟩
    have hcnt : (((f + m : Nat) : Int) - (f : Int)).toNat = m := by omega
    rw [hcnt]
    refine lc_pure (walk_range (lo := (f : Int))) (fun i => .int (eF d c (f + i))) (by omega) (fun _ _ => trivial) (fun i H' x H'' y => by rw [y.1]; exact Fr.refl _) (fun i x H' H'' R' hi e y kR => ?_) (fun D H1 hD e1 hD' => ?_)
    · obtain ⟨rfl, rfl⟩ := y
      have g3 := e _ _ nin h3
      have g4 := e _ _ nin h4
      have ei : (f : Int) + (i : Int) = ((f + i : Nat) : Int) := by omega
      simp only [ei]
      walk_at "ev"
      refine ⟨rfl, ?_⟩
      walk_at "ev"
      refine r_at (atN (by omega)) ?_
      walk_at "ev"
      refine r_at (atN (by omega)) ?_
      walk_at "ev"
      exact ⟨_, _, _, rfl, kR _ (Fr.refl _)⟩
    have z1 := (Z.start0 H).comp e1 hD hD'
    clear e1 hD hD'
    have g1 := z1.keep h1 (by simp)
    have g2 := z1.keep h2 (by simp)
    walk_at "ev"
    refine Evl.q_cut (M := fun σ' H' => σ' = [some (.ref bt), some (.ref pt), some (.int c), some (.ref l1), some (.ref l2), some (.ref l3), some (.ref l4), some (.int f), some (.int (f + m : Nat)), some (.bl L), some (.bl R), some (.ref D), some (.int (if L = true then d.lo f else 0)), some (.int (if L = true then 0 else -d.hi f)), none, none, none, none, none, none, none, none, none] ∧ Z H H' [(2, D, .lst ((eL d f m c).map V.int))]) ?_ ?_
    · walk_at "ev"
      cases L with
      | true =>
        walk_at "ev"
        refine r_at (lo_at (by omega)) ?_
        walk_at "ev"
        intro t1 k1
        have z2 := z1.alloc (.tup [.int (d.lo f), .int 0]) k1
        walk_at "ev"
        refine ⟨rfl, ?_⟩
        have z3 := z2.sub (.cons _ (List.Sublist.refl _)) (by simp)
        rw [show eL d f m c = (List.range m).map fun k => eF d c (f + k) from rfl, List.map_map]
        exact z3
      | false =>
        walk_at "ev"
        refine r_at (hi_at ok (by omega)) ?_
        walk_at "ev"
        intro t1 k1
        have z2 := z1.alloc (.tup [.int 0, .int (-d.hi f)]) k1
        walk_at "ev"
        refine ⟨rfl, ?_⟩
        have z3 := z2.sub (.cons _ (List.Sublist.refl _)) (by simp)
        rw [show eL d f m c = (List.range m).map fun k => eF d c (f + k) from rfl, List.map_map]
        exact z3
    clear z1 g1 g2
    rintro σ H2 ⟨rfl, z1⟩
    have el := eL_len (d := d) (f := f) (m := m) (c := c)
    walk_at "ev"
    refine r_at (atN (i := 0) (by omega)) ?_
    rw [nth_eL (by omega), Nat.add_zero]
    walk_at "ev"
    have e0 : dpO d.lo d.hi (eF d c) f L 0 = if L = true then d.lo f else 0 := by rw [dpO]
    have e1 : dpN d.lo d.hi (eF d c) f L 0 = (if L = true then 0 else -d.hi f) - eF d c f := by rw [dpN]
    rw [← e0, ← e1]
    intro cf kc
    have z2 := z1.alloc (.lst []) kc
    walk_at "ev"
    refine ⟨⟨by omega, by omega, by omega, by omega⟩, ?_⟩
    rw [show (((f + m : Nat) : Int) - ((f : Int) + 1)).toNat = m - 1 by omega]
    refine for_it (walk_range (lo := (f : Int) + 1)) (fun i σ H' => ∃ (u1 u2 u3 : Option V) (ts : List Addr), σ = [some (.ref bt), some (.ref pt), some (.int c), some (.ref l1), some (.ref l2), some (.ref l3), some (.ref l4), some (.int f), some (.int (f + m : Nat)), some (.bl L), some (.bl R), some (.ref D), some (.int (dpO d.lo d.hi (eF d c) f L i)), some (.int (dpN d.lo d.hi (eF d c) f L i)), some (.ref cf), u1, u2, u3, none, none, none, none, none] ∧
      Z H H' [(2, cf, .lst (ts.map V.ref)), (2, D, .lst ((eL d f m c).map V.int))] ∧ TL H' ts ((List.range i).map (cameV d f L c))) ⟨none, none, none, [], rfl, z2, TL.nil _⟩ (fun _ _ _ _ _ => trivial) (fun i x σ H' H'' hi p y => ?_) (fun σ H' p => ?_)
    · obtain ⟨u1, u2, u3, ts, rfl, z, tl⟩ := p
      obtain ⟨rfl, rfl⟩ := y
      have ei : (f : Int) + 1 + (i : Int) = ((f + i + 1 : Nat) : Int) := by omega
      simp only [ei]
      have g1 := z.keep h1 (by simp)
      have g2 := z.keep h2 (by simp)
      have tln : ts.length = i := by
        have := tl.1
        rw [List.length_map, List.length_range] at this
        exact this
      walk_at "ev"
      refine r_at (lo_at (by omega)) ?_
      walk_at "ev"
      refine r_at (hi_at ok (by omega)) ?_
      walk_at "ev"
      intro t kt
      have w1 := z.alloc (.tup (cameV d f L c i)) kt
      have tl1 := tl.more (o := .tup (cameV d f L c i)) kt
      have tl2 := (tl1.add (v := cameV d f L c i) (w1.get (.head _))).put (o := .lst (ts.map V.ref ++ [.ref t])) (w1.get (.tail _ (.head _)))
      walk_at "ev"
      have w2 := w1.set 1 (.lst (ts.map V.ref ++ [.ref t])) rfl (.inr rfl)
      walk_at "ev"
      rw [show ((f + i + 1 : Nat) : Int) - (f : Int) = ((i + 1 : Nat) : Int) by omega]
      refine r_at (atN (by omega)) ?_
      rw [nth_eL (by omega), ifmax, ifmax]
      walk_at "ev"
      have e2 : dpO d.lo d.hi (eF d c) f L (i + 1) = max (dpO d.lo d.hi (eF d c) f L i) (dpN d.lo d.hi (eF d c) f L i + d.lo (f + i + 1)) := by rw [dpO]
      have e3 : dpN d.lo d.hi (eF d c) f L (i + 1) = max (dpN d.lo d.hi (eF d c) f L i) (dpO d.lo d.hi (eF d c) f L i - d.hi (f + i + 1)) - eF d c (f + (i + 1)) := by rw [dpN]; rfl
      rw [e2, e3]
      refine ⟨_, _, _, ts ++ [t], rfl, ?_, ?_⟩
      · rw [List.map_append]
        exact w2.sub (.cons _ (List.Sublist.refl _)) (by simp)
      · rw [List.range_succ, List.map_append]
        exact tl2
    obtain ⟨u1, u2, u3, ts, rfl, z, tl⟩ := p
    clear z1 z2
    refine Evl.q_cut (M := fun σ' H'' => σ' = [some (.ref bt), some (.ref pt), some (.int c), some (.ref l1), some (.ref l2), some (.ref l3), some (.ref l4), some (.int f), some (.int (f + m : Nat)), some (.bl L), some (.bl R), some (.ref D), some (.int (dpO d.lo d.hi (eF d c) f L (m - 1))), some (.int (dpN d.lo d.hi (eF d c) f L (m - 1))), some (.ref cf), u1, u2, u3, some (.bl (backB d.lo d.hi (eF d c) f m L R 1)), none, none, none, none] ∧ H'' = H') ?_ ?_
    · have g1 := z.keep h1 (by simp)
      have g2 := z.keep h2 (by simp)
      have em : f + (m - 1) + 1 = f + m := by omega
      walk_at "ev"
      cases R with
      | true =>
        walk_at "ev"
        refine r_at (hi_at ok (by omega)) ?_
        walk_at "ev"
        refine ⟨?_, rfl⟩
        have eb : backB d.lo d.hi (eF d c) f m L true 1 = decide (dpO d.lo d.hi (eF d c) f L (m - 1) - d.hi (f + m) < dpN d.lo d.hi (eF d c) f L (m - 1)) := by
          show stepB d.lo d.hi (eF d c) f L (m - (0 + 1)) true = _
          unfold stepB
          rw [if_pos rfl, Nat.zero_add, em]
        rw [eb]
        rfl
      | false =>
        walk_at "ev"
        refine r_at (lo_at (by omega)) ?_
        walk_at "ev"
        refine ⟨?_, rfl⟩
        have eb : backB d.lo d.hi (eF d c) f m L false 1 = decide (dpO d.lo d.hi (eF d c) f L (m - 1) < dpN d.lo d.hi (eF d c) f L (m - 1) + d.lo (f + m)) := by
          show stepB d.lo d.hi (eF d c) f L (m - (0 + 1)) false = _
          unfold stepB
          rw [if_neg (by decide), Nat.zero_add, em]
        rw [eb]
        rfl
    rintro σ H3 ⟨rfl, rfl⟩
    walk_at "ev"
    intro fd kf
    have f0 : foundL d f m L R c 0 = [backB d.lo d.hi (eF d c) f m L R 1] := rfl
    have z4 := z.alloc (.lst ((foundL d f m L R c 0).map V.bl)) kf
    have tl4 := tl.more (o := .lst ((foundL d f m L R c 0).map V.bl)) kf
    have tln : ts.length = m - 1 := by
      have := tl.1
      rw [List.length_map, List.length_range] at this
      exact this
    rw [show [V.bl (backB d.lo d.hi (eF d c) f m L R 1)] = (foundL d f m L R c 0).map V.bl from rfl]
    clear f0 z kf tl
    walk_at "ev"
    intro rv kr
    have z5 := z4.alloc (.lst (ts.map V.ref).reverse) kr
    have tl5 := tl4.more (o := .lst (ts.map V.ref).reverse) kr
    refine ⟨rv, rfl, ⟨_, SqL.of (z5.get (.head _))⟩, ?_⟩
    refine for_it (walk_list (xs := (ts.map V.ref).reverse)) (fun i σ H' => ∃ (v1 v2 : Option V), σ = [some (.ref bt), some (.ref pt), some (.int c), some (.ref l1), some (.ref l2), some (.ref l3), some (.ref l4), some (.int f), some (.int (f + m : Nat)), some (.bl L), some (.bl R), some (.ref D), some (.int (dpO d.lo d.hi (eF d c) f L (m - 1))), some (.int (dpN d.lo d.hi (eF d c) f L (m - 1))), some (.ref cf), u1, u2, u3, some (.bl (backB d.lo d.hi (eF d c) f m L R 1)), some (.ref fd), v1, v2, none] ∧
      Z H H' [(2, rv, .lst (ts.map V.ref).reverse), (2, fd, .lst ((foundL d f m L R c i).map V.bl))] ∧ TL H' ts ((List.range (m - 1)).map (cameV d f L c))) ⟨none, none, rfl, z5.sub (.cons₂ _ (.cons₂ _ (List.nil_sublist _))) (by simp), tl5⟩ (fun i σ H' _ p => ?_) (fun i x σ H' H'' hi p y => ?_) (fun σ H' p => ?_)
    · obtain ⟨v1, v2, _, z, _⟩ := p
      exact SqL.of (z.get (.head _))
    · obtain ⟨v1, v2, rfl, z, tl⟩ := p
      obtain ⟨rfl, hx⟩ := y
      rw [List.length_reverse, List.length_map, tln] at hi
      rw [List.getElem?_reverse (by rw [List.length_map, tln]; exact hi), List.length_map, tln, List.getElem?_map] at hx
      obtain ⟨t, ht⟩ : ∃ t, ts[m - 1 - 1 - i]? = some t := ⟨_, List.getElem?_eq_getElem (by omega)⟩
      rw [ht] at hx
      obtain rfl := Option.some.inj hx
      have h9 := tl.2 _ _ ht
      have ej : m - 1 - 1 - i = m - (i + 2) := by omega
      rw [ej, List.getD_eq_getElem?_getD, List.getElem?_map, List.getElem?_range (by omega)] at h9
      have h9' : H'' t = some (.tup (cameV d f L c (m - (i + 2)))) := h9
      unfold cameV at h9'
      have fl : (foundL d f m L R c i).length = i + 1 := foundL_len
      walk_at "ev"
      refine r_at foundL_end ?_
      walk_at "ev"
      have eb : backB d.lo d.hi (eF d c) f m L R (i + 2) = stepB d.lo d.hi (eF d c) f L (m - (i + 2)) (backB d.lo d.hi (eF d c) f m L R (i + 1)) := rfl
      rw [foundL_succ, List.map_append, eb]
      have w1 := fun b => z.set 1 (.lst ((foundL d f m L R c i).map V.bl ++ [.bl b])) rfl (.inr rfl)
      have t1 := fun b => tl.put (o := .lst ((foundL d f m L R c i).map V.bl ++ [.bl b])) (z.get (.tail _ (.head _)))
      cases backB d.lo d.hi (eF d c) f m L R (i + 1) with
      | true =>
        walk_at "ev"
        exact ⟨_, _, rfl, w1 _, t1 _⟩
      | false =>
        walk_at "ev"
        exact ⟨_, _, rfl, w1 _, t1 _⟩
    · obtain ⟨v1, v2, rfl, z, tl⟩ := p
      rw [List.length_reverse, List.length_map, tln] at z
      walk_at "ev"
      intro p kp
      have z6 := z.alloc (.lst ((foundL d f m L R c (m - 1)).map V.bl).reverse) kp
      refine k p _ (z.none kp) (z6.fr0 (by simp)) ?_
      rw [← foundL_rev m1, List.map_reverse]
      exact z6.get (.head _)
end
set_option Elab.async false
set_option linter.all false
set_option maxRecDepth 100000
set_option maxHeartbeats 4000000
def seg (ns : List Int) (i j : Nat) : List Int := (ns.drop i).take (j - i)
theorem cut_seg {ns : List Int} {i j : Int} (h0 : 0 ≤ i) (h1 : i ≤ ns.length) (h2 : 0 ≤ j) (h3 : j ≤ ns.length) : cutV (ns.map V.int) (some i) (some j) = (seg ns i.toNat j.toNat).map V.int := by
  obtain ⟨a, rfl⟩ := Int.eq_ofNat_of_zero_le h0
  obtain ⟨b, rfl⟩ := Int.eq_ofNat_of_zero_le h2
  unfold cutV seg
  rw [HT.sIx_nat, HT.sIx_nat, List.length_map, Nat.min_eq_left (by omega), Nat.min_eq_left (by omega), List.map_take, List.map_drop]
  rfl
theorem cut_segN {ns : List Int} {i j : Nat} (h1 : i ≤ ns.length) (h3 : j ≤ ns.length) : cutV (ns.map V.int) (some (i : Int)) (some (j : Int)) = (seg ns i j).map V.int := cut_seg (by omega) (by omega) (by omega) (by omega)
theorem cut_from {ns : List Int} {i : Int} (h0 : 0 ≤ i) (h1 : i ≤ ns.length) : cutV (ns.map V.int) (some i) none = (ns.drop i.toNat).map V.int := by
  obtain ⟨a, rfl⟩ := Int.eq_ofNat_of_zero_le h0
  unfold cutV
  rw [HT.sIx_nat, HT.sIx_none, List.length_map, Nat.min_eq_left (by omega), List.map_drop, List.take_of_length_le (by rw [List.length_drop, List.length_map]; exact Nat.le_refl _)]
  rfl
theorem cut_upto {ns : List Int} {i : Int} (h0 : 0 ≤ i) (h1 : i ≤ ns.length) : cutV (ns.map V.int) none (some i) = (ns.take i.toNat).map V.int := by
  obtain ⟨a, rfl⟩ := Int.eq_ofNat_of_zero_le h0
  unfold cutV
  rw [HT.sIx_nat, HT.sIx_none, List.length_map, Nat.min_eq_left (by omega), List.map_take]
  rfl
theorem cut_uptoN {ns : List Int} {i : Nat} (h1 : i ≤ ns.length) : cutV (ns.map V.int) none (some (i : Int)) = (ns.take i).map V.int := cut_upto (by omega) (by omega)
theorem cut_fromN {ns : List Int} {i : Nat} (h1 : i ≤ ns.length) : cutV (ns.map V.int) (some (i : Int)) none = (ns.drop i).map V.int := cut_from (by omega) (by omega)
theorem atN1 {ns : List Int} {t : Nat} (h1 : 1 ≤ t) (h2 : t - 1 < ns.length) : atI (ns.map V.int) ((t : Int) - 1) = some (.int (nth ns (t - 1))) := by
  rw [show (t : Int) - 1 = ((t - 1 : Nat) : Int) by omega]
  exact atN h2
theorem ixN_m1 {n t : Nat} (h1 : 1 ≤ t) (h2 : t - 1 < n) : ixN n ((t : Int) - 1) = some (t - 1) := by
  rw [show (t : Int) - 1 = ((t - 1 : Nat) : Int) by omega]
  exact ixN_at h2
theorem seg_len {ns : List Int} {i j : Nat} (h : j ≤ ns.length) (h1 : i ≤ j) : (seg ns i j).length = j - i := by
  unfold seg
  rw [List.length_take, List.length_drop]
  omega
theorem seg_nth {ns : List Int} {i j k : Nat} (h : j ≤ ns.length) (h1 : i + k < j) : nth (seg ns i j) k = nth ns (i + k) := by
  unfold seg nth
  rw [List.getD_eq_getElem?_getD, List.getD_eq_getElem?_getD, List.getElem?_take_of_lt (by omega), List.getElem?_drop]
set_option Elab.async false
set_option linter.all false
set_option maxRecDepth 100000
set_option maxHeartbeats 4000000
set_option exponentiation.threshold 2000
def pairV (p : Int × Int) : List V := [.int p.1, .int p.2]
theorem r_sortT {K : PySem.W.Frag} {H : Hp} {Q : VK} {a : Addr} {ts : List Addr} {ps : List (Int × Int)} (s : SqL K H a (ts.map V.ref)) (tl : TL H ts (ps.map pairV))
    (q : ∀ (us : List Addr) (qs : List (Int × Int)) (p : Addr), us.Perm ts → qs.Perm ps → qs.Pairwise (fun x y => SrtO.lexB y x = false) → TL H us (qs.map pairV) → H p = none → Q (.ref p) (upd H p (.lst (us.map V.ref)))) : rSortedPO K [.ref a] H Q := by
  have tl1 := tl.1
  rw [List.length_map] at tl1
  refine r_sortP (ps := ps) tl1 s (fun i t h => ?_) fun us qs p h1 h2 h3 h4 h5 h6 => q us qs p h1 h2 h4 ⟨by rw [List.length_map, h3], fun i t h => ?_⟩ h6
  · have hl := (List.getElem?_eq_some_iff.mp h).1
    refine ⟨ps[i]'(by omega), List.getElem?_eq_getElem _, ?_⟩
    have := tl.2 i t h
    rw [List.getD_eq_getElem?_getD, List.getElem?_map, List.getElem?_eq_getElem (by omega)] at this
    exact this
  · obtain ⟨p, e, h9⟩ := h5 i t h
    rw [List.getD_eq_getElem?_getD, List.getElem?_map, e]
    exact h9
section
variable {J : It} {n : Nat} {GG : Hp → Prop} {Y : Nat → Hp → V → Hp → Prop} {g : TG} {te : TE} {vs : List Nat} {σ : L2.St} {H1 : Hp} {Q : VK}
/-- a comprehension of new tuples -/
theorem lc_tl (w : Walk J n GG Y) (f : Nat → List V) (hn : n ≤ 100000) (hG : ∀ H', Fr [] H1 H' → GG H') (hY : ∀ i H' x H'', Y i H' x H'' → Fr [] H' H'')
    (he : ∀ i x H' H'' (R : VK), i < n → Fr [] H1 H' → Y i H' x H'' → (∀ t H3, Fr [] H'' H3 → H3 t = none → R (.ref t) (upd H3 t (.tup (f i)))) → g x (wipe σ vs) H'' fun σ2 H2 => wipe σ2 vs = wipe σ vs ∧ te σ2 H2 R)
    (hd : ∀ D ts H', H1 D = none → Fr [] H1 H' → H' D = some (.lst (ts.map V.ref)) → TL H' ts ((List.range n).map f) → (∀ t ∈ ts, H1 t = none) → Q (.ref D) H') : LcJ g tYes te vs σ Q J H1 := by
  intro D hD
  refine lc_it w (fun i H' => i ≤ n ∧ Fr [] H1 H' ∧ ∃ ts : List Addr, H' D = some (.lst (ts.map V.ref)) ∧ TL H' ts ((List.range i).map f) ∧ ∀ t ∈ ts, H1 t = none) ⟨Nat.zero_le _, (Fr.refl H1).mut hD, [], upd_same, TL.nil _, fun _ m => nomatch m⟩ (fun i H' _ p => hG H' p.2.1) (fun i x H' H'' hi p y => ?_) (fun H' p => by
    obtain ⟨_, p2, ts, p3, p4, p5⟩ := p
    exact hd D ts H' hD p2 p3 p4 p5)
  obtain ⟨p1, p2, ts, p3, p4, p5⟩ := p
  have hf := hY i H' x H'' y
  refine he i x H' H'' (fun y H4 => ∃ acc, H4 D = some (.lst acc) ∧ acc.length < sizeLine ∧ (i + 1 ≤ n ∧ Fr [] H1 (upd H4 D (.lst (acc ++ [y]))) ∧ ∃ ts : List Addr, (upd H4 D (.lst (acc ++ [y]))) D = some (.lst (ts.map V.ref)) ∧ TL (upd H4 D (.lst (acc ++ [y]))) ts ((List.range (i + 1)).map f) ∧ ∀ t ∈ ts, H1 t = none)) hi p2 y fun t H3 e3 ht => ?_
  have e4 : Fr [] H' H3 := hf.trans e3
  have d3 := e4 _ _ (fun z => nomatch z) p3
  have ne : D ≠ t := fun e => by rw [e, ht] at d3; cases d3
  have d4 : (upd H3 t (.tup (f i))) D = some (.lst (ts.map V.ref)) := by rw [upd_ne ne]; exact d3
  have t3 : TL H3 ts ((List.range i).map f) := p4.fr fun a o h => e4 a o (fun z => nomatch z) h
  have t4 := ((t3.more (o := .tup (f i)) ht).add (v := f i) upd_same).put (o := .lst (ts.map V.ref ++ [.ref t])) d4
  have len : ts.length = i := by
    have := p4.1
    rw [List.length_map, List.length_range] at this
    exact this
  refine ⟨_, d4, ?_, hi, (p2.trans (e4.new ht)).mut hD, ts ++ [t], ?_, ?_, fun q m => ?_⟩
  · rw [List.length_map]
    exact Nat.lt_of_lt_of_le (show ts.length < 100001 by omega) (by decide)
  · rw [upd_same, List.map_append]
    rfl
  · rw [List.range_succ, List.map_append]
    exact t4
  · rcases List.mem_append.mp m with m | m
    · exact p5 q m
    · rw [List.mem_singleton.mp m]
      cases e : H1 t with
      | none => rfl
      | some o =>
        have := (p2.trans e4) t o (fun z => nomatch z) e
        rw [ht] at this
        cases this
end
theorem lex_le {l : List (Int × Int)} (h : l.Pairwise (fun x y => SrtO.lexB y x = false)) : ∀ i j, i ≤ j → j < l.length → (pairAt l i).1 ≤ (pairAt l j).1 := fun i j h1 h2 => by
  by_cases e : i = j
  · rw [e]
    exact Int.le_refl _
  · have hp := (List.pairwise_iff_getElem.mp h) i j (by omega) h2 (by omega)
    unfold pairAt
    rw [List.getD_eq_getElem?_getD, List.getD_eq_getElem?_getD, List.getElem?_eq_getElem (by omega), List.getElem?_eq_getElem h2]
    show (l[i]).1 ≤ (l[j]).1
    unfold SrtO.lexB at hp
    split at hp
    · omega
    · have := of_decide_eq_false hp
      omega
def needP (d : PD) (f t : Nat) (L R : Bool) : Int := (if R = true then d.hi t else d.lo t) - (if L = true then d.lo f else d.hi f)
/-- bounds of the entries of a plan that are not too great to be reckoned with -/
def PD.Bd (d : PD) : Prop := ∀ i, i < d.L.length → -(2 ^ 1000) ≤ d.a i ∧ d.a i ≤ 2 ^ 1000 ∧ -(2 ^ 1000) ≤ d.b i ∧ d.b i ≤ 2 ^ 1000
theorem seg_sum {ns : List Int} {f m : Nat} (h : f + m ≤ ns.length) : (seg ns f (f + m)).sum = sumF (nth ns) (f + m) - sumF (nth ns) f := by
  have l := seg_len (ns := ns) (i := f) (j := f + m) h (by omega)
  have e := sumF_take (ns := seg ns f (f + m)) (k := m) (by omega)
  rw [List.take_of_length_le (by omega)] at e
  rw [← e, ← sumF_shift]
  exact sumF_congr fun i hi => seg_nth h (by omega)
theorem TL.app {H : Hp} {ts us : List Addr} {vs ws : List (List V)} (t : TL H ts vs) (u : TL H us ws) : TL H (ts ++ us) (vs ++ ws) := by
  refine ⟨by rw [List.length_append, List.length_append, t.1, u.1], fun i a h => ?_⟩
  by_cases e : i < ts.length
  · rw [List.getElem?_append_left e] at h
    rw [List.getD_eq_getElem?_getD, List.getElem?_append_left (by rw [← t.1]; exact e), ← List.getD_eq_getElem?_getD]
    exact t.2 i a h
  · rw [List.getElem?_append_right (by omega)] at h
    rw [List.getD_eq_getElem?_getD, List.getElem?_append_right (by rw [← t.1]; omega), ← List.getD_eq_getElem?_getD, ← t.1]
    exact u.2 _ a h
theorem TL.pair {H : Hp} {us : List Addr} {qs : List (Int × Int)} (t : TL H us (qs.map pairV)) {i : Nat} (h : i < us.length) : ∃ a, us[i]? = some a ∧ H a = some (.tup [.int (pairAt qs i).1, .int (pairAt qs i).2]) := by
  have hl := t.1
  rw [List.length_map] at hl
  refine ⟨us[i], List.getElem?_eq_getElem h, ?_⟩
  have := t.2 i _ (List.getElem?_eq_getElem h)
  rw [List.getD_eq_getElem?_getD, List.getElem?_map, List.getElem?_eq_getElem (by omega)] at this
  rw [this]
  unfold pairAt
  rw [List.getD_eq_getElem?_getD, List.getElem?_eq_getElem (by omega)]
  rfl
section
variable {P : Program} {w : World} {K : PySem.W.Frag} {mg : Str → Option Value} {base : Heap}
def sp__even_rate (K : PySem.W.Frag) : Sp := fun vs H Q _ => ∃ (bt pt : Addr) (d : PD) (f m : Nat) (L R : Bool) (c : Int), vs = [.ref bt, .ref pt, .int c] ∧ BndAt H bt d ∧ d.Ok ∧ d.Bd ∧ H pt = some (.tup [.int f, .int (f + m : Nat), .bl L, .bl R]) ∧ (1 ≤ m ∧ f + m ≤ d.L.length) ∧
  needP d f (f + m) L R ≤ sumF d.b (f + m) - sumF d.b f ∧
  ∀ r H', Fr [] H H' → (r = c ∨ ((∃ i, f ≤ i ∧ i < f + m ∧ d.a i ≤ r) ∧ needP d f (f + m) L R ≤ sumF (eF d (r + 1)) (f + m) - sumF (eF d (r + 1)) f)) → Q (.int r) H'
theorem k__even_rate (T : Tx fa fn K mg base) : Fk P w K mg base "_even_rate" ["bounds", "part", "lowest"] 1 (sp__even_rate K) s__even_rate "_even_rate" := by
  refine T.fk 27 43 (q := "_even_rate") (st := s__even_rate) sc__even_rate (fun _ _ _ _ _ _ us hl => match us, hl with | [_, _, _], _ => rfl) (fun vs H Q E h => ?_) (fun cdv A outer s H vs Q E hr h => ?_)
  · obtain ⟨bt, pt, d, f, m, L, R, c, rfl, _⟩ := h
    rfl
  · obtain ⟨bt, pt, d, f, m, L, R, c, rfl, bd, ok, big, hp, ⟨m1, m2⟩, hn, k⟩ := h
    obtain ⟨l1, l2, l3, l4, h0, h1, h2, h3, h4⟩ := bd.ex
    have lA := ok.lA
    have lB := ok.lB
    have most := ok.most
    refine ⟨_, (pss_cons (ps_asg (pv 0) (pg_tup rfl (pgs_cons (pg_name (i := 3) sc__even_rate.nd rfl (by first | exact Or.inl rfl | exact Or.inr rfl)) (pgs_cons (pg_name (i := 4) sc__even_rate.nd rfl (by first | exact Or.inl rfl | exact Or.inr rfl)) (pgs_cons (pg_name (i := 5) sc__even_rate.nd rfl (by first | exact Or.inl rfl | exact Or.inr rfl)) (pgs_cons (pg_name (i := 6) sc__even_rate.nd rfl (by first | exact Or.inl rfl | exact Or.inr rfl)) pgs_nil))))))
      (pss_cons (ps_asg (pv 1) (pg_tup rfl (pgs_cons (pg_name (i := 7) sc__even_rate.nd rfl (by first | exact Or.inl rfl | exact Or.inr rfl)) (pgs_cons (pg_name (i := 8) sc__even_rate.nd rfl (by first | exact Or.inl rfl | exact Or.inr rfl)) (pgs_cons (pg_name (i := 9) sc__even_rate.nd rfl (by first | exact Or.inl rfl | exact Or.inr rfl)) (pgs_cons (pg_name (i := 10) sc__even_rate.nd rfl (by first | exact Or.inl rfl | exact Or.inr rfl)) pgs_nil))))))
      (Evl.pss_cut (ps_set (i := 11) sc__even_rate.nd rfl (by first | exact Or.inl rfl | exact Or.inr rfl) (pe_op op_sub (pe_ifExp (pt_val (pv 10)) (pe_ix ix_list (pv 4) (pv 8) (fun _ _ => rfl)) (pe_ix ix_list (pv 3) (pv 8) (fun _ _ => rfl))) (pe_ifExp (pt_val (pv 9)) (pe_ix ix_list (pv 3) (pv 7) (fun _ _ => rfl)) (pe_ix ix_list (pv 4) (pv 7) (fun _ _ => rfl)))))
      (pss_cons (ps_par (i := 12) (j := 13) (by rfl) sc__even_rate.nd rfl rfl (by decide) rfl rfl (pa_cons (pe_callB (cr_sum rfl) (by rfl) (T.fr 30) (by decide +kernel) (pa_cons (pe_slice sl_list (pv 5) (po_some (pv 7)) (po_some (pv 8))) pa_nil)) (pa_cons pe_int pa_nil)) (by rfl))
      (pss_cons (ps_if (pt_cmpR op_ge (pv 12) (pv 11) (nomark _)) (pss_one (ps_ret (pv 2))) pss_nil)
      (pss_cons (ps_set (i := 14) sc__even_rate.nd rfl (by first | exact Or.inl rfl | exact Or.inr rfl) (pe_callB cr_sortedPO (by rfl) (T.fr 42) (by decide +kernel) (pa_cons (pe_op op_cat (pe_lc (own := [("bound", 19)]) (tt := tYes) (te := (tTup (tCons (tVar 19) (tCons (tC (.int 1)) tNil)))) rfl sc__even_rate.nd (pi_list (pe_slice sl_list (pv 5) (po_some (pv 7)) (po_some (pv 8)))) (blkOk_by (N := ["bounds", "part", "lowest", "low", "high", "least", "most", "first", "last", "left", "right", "needed", "amount", "growing", "turns", "rate", "turn", "step", "reached", "bound"]) (sc := defScope s__even_rate) (by decide +kernel)) (fun _ _ _ _ _ => (pg_name (i := 19) sc__even_rate.nd rfl (by first | exact Or.inl rfl | exact Or.inr rfl))) (fun _ _ _ _ _ => pts_nil) (fun _ _ _ _ _ => (pe_tup (pa_cons (pv 19) (pa_cons pe_int pa_nil))))) (pe_lc (own := [("bound", 19)]) (tt := tYes) (te := (tTup (tCons (tVar 19) (tCons (tUn (rU fun i => .int (-i)) (tC (.int 1))) tNil)))) rfl sc__even_rate.nd (pi_list (pe_slice sl_list (pv 6) (po_some (pv 7)) (po_some (pv 8)))) (blkOk_by (N := ["bounds", "part", "lowest", "low", "high", "least", "most", "first", "last", "left", "right", "needed", "amount", "growing", "turns", "rate", "turn", "step", "reached", "bound"]) (sc := defScope s__even_rate) (by decide +kernel)) (fun _ _ _ _ _ => (pg_name (i := 19) sc__even_rate.nd rfl (by first | exact Or.inl rfl | exact Or.inr rfl))) (fun _ _ _ _ _ => pts_nil) (fun _ _ _ _ _ => (pe_tup (pa_cons (pv 19) (pa_cons (pe_un un_neg pe_int) pa_nil)))))) pa_nil)))
      (pss_cons (ps_set (i := 15) sc__even_rate.nd rfl (by first | exact Or.inl rfl | exact Or.inr rfl) (pe_ix ix_tup (pe_ix ix_list (pv 14) pe_int (fun _ _ => rfl)) pe_int (fun _ _ => rfl)))
      (pss_cons (ps_for PassesOwn.never rfl (pi_list (pv 14)) (pg_tup rfl (pgs_cons (pg_name (i := 16) sc__even_rate.nd rfl (by first | exact Or.inl rfl | exact Or.inr rfl)) (pgs_cons (pg_name (i := 17) sc__even_rate.nd rfl (by first | exact Or.inl rfl | exact Or.inr rfl)) pgs_nil))) (pss_cons (ps_set (i := 18) sc__even_rate.nd rfl (by first | exact Or.inl rfl | exact Or.inr rfl) (pe_op op_add (pv 12) (pe_op op_mulW (pv 13) (pe_op op_sub (pv 16) (pv 15)))))
      (pss_cons (ps_if (pt_cmpR op_ge (pv 18) (pv 11) (nomark _)) (pss_one ps_break) pss_nil)
      (pss_one (ps_par3 (i := 15) (j := 12) (l := 13) (by rfl) sc__even_rate.nd rfl rfl rfl (by decide) (by decide) (by decide) rfl rfl rfl (pa_cons (pv 16) (pa_cons (pv 18) (pa_cons (pe_op op_add (pv 13) (pv 17)) pa_nil))) (by rfl))))))
      (pss_one (ps_ret (pe_op op_add (pv 15) (pe_op op_fdivW (pe_op op_sub (pe_op op_sub (pv 11) (pv 12)) pe_int) (pv 13))))))))))))), ?_⟩
    walk_at "ev0"
    refine Evl.q_cut (M := fun σ' H' => σ' = [some (.ref bt), some (.ref pt), some (.int c), some (.ref l1), some (.ref l2), some (.ref l3), some (.ref l4), some (.int f), some (.int (f + m : Nat)), some (.bl L), some (.bl R), some (.int (needP d f (f + m) L R)), none, none, none, none, none, none, none, none] ∧ H' = H) ?_ ?_
    · unfold needP
      cases R with
      | true =>
        walk_at "ev"
        refine r_at (hi_at ok (by omega)) ?_
        walk_at "ev"
        cases L with
        | true =>
          walk_at "ev"
          refine r_at (lo_at (by omega)) ?_
          walk_at "ev"
          exact ⟨rfl, rfl⟩
        | false =>
          walk_at "ev"
          refine r_at (hi_at ok (by omega)) ?_
          walk_at "ev"
          exact ⟨rfl, rfl⟩
      | false =>
        walk_at "ev"
        refine r_at (lo_at (by omega)) ?_
        walk_at "ev"
        cases L with
        | true =>
          walk_at "ev"
          refine r_at (lo_at (by omega)) ?_
          walk_at "ev"
          exact ⟨rfl, rfl⟩
        | false =>
          walk_at "ev"
          refine r_at (hi_at ok (by omega)) ?_
          walk_at "ev"
          exact ⟨rfl, rfl⟩
    rintro σ H0 ⟨rfl, rfl⟩
    generalize hneed : needP d f (f + m) L R = need at hn k ⊢
    walk_at "ev"
    rw [cut_segN (by omega) (by omega)]
    intro s1 k1
    have z1 := (Z.start0 H0).alloc (.lst ((seg d.A f (f + m)).map V.int)) k1
    have g5 := z1.keep h3 (by simp)
    have g6 := z1.keep h4 (by simp)
    walk_at "ev"
    rw [show (seg d.A f (f + m)).sum = sumF d.a (f + m) - sumF d.a f from seg_sum (by omega)]
    generalize hS : sumF d.a (f + m) - sumF d.a f = S
    refine r_ite (fun c1 => ?_) (fun c1 => ?_)
    · walk_at "ev"
      exact k c _ (z1.fr0 (by simp)) (.inl rfl)
    have sl := seg_len (ns := d.A) (i := f) (j := f + m) (by omega) (by omega)
    have sl2 := seg_len (ns := d.B) (i := f) (j := f + m) (by omega) (by omega)
    walk_at "ev"
    rw [cut_segN (by omega) (by omega)]
    intro s2 k2
    have z2 := z1.alloc (.lst ((seg d.A f (f + m)).map V.int)) k2
    walk_at "ev"
    refine lc_tl (walk_list (xs := (seg d.A f (f + m)).map V.int)) (fun i => [.int (nth (seg d.A f (f + m)) i), .int 1]) (by rw [List.length_map]; omega) (fun H' e => e.sql (SqL.of (z2.get (.head _))) nin) (fun i H' x H'' y => by rw [y.1]; exact Fr.refl _) (fun i x H' H'' R' hi e y kR => ?_) (fun D1 ts1 H1 hD1 e1 g1 t1 n1 => ?_)
    · obtain ⟨rfl, hx⟩ := y
      rw [nth_at hx]
      walk_at "ev"
      refine ⟨rfl, ?_⟩
      walk_at "ev"
      intro t kt
      exact kR t _ (Fr.refl _) kt
    have z3 := z2.comp e1 hD1 g1
    have g6 := z3.keep h4 (by simp)
    walk_at "ev"
    rw [cut_segN (by omega) (by omega)]
    intro s3 k3
    have z4 := z3.alloc (.lst ((seg d.B f (f + m)).map V.int)) k3
    have t3 := t1.more (o := .lst ((seg d.B f (f + m)).map V.int)) k3
    walk_at "ev"
    refine lc_tl (walk_list (xs := (seg d.B f (f + m)).map V.int)) (fun i => [.int (nth (seg d.B f (f + m)) i), .int (-1)]) (by rw [List.length_map]; omega) (fun H' e => e.sql (SqL.of (z4.get (.head _))) nin) (fun i H' x H'' y => by rw [y.1]; exact Fr.refl _) (fun i x H' H'' R' hi e y kR => ?_) (fun D2 ts2 H2 hD2 e2 g2 t2 n2 => ?_)
    · obtain ⟨rfl, hx⟩ := y
      rw [nth_at hx]
      walk_at "ev"
      refine ⟨rfl, ?_⟩
      walk_at "ev"
      intro t kt
      exact kR t _ (Fr.refl _) kt
    have z5 := z4.comp e2 hD2 g2
    have t4 := t3.fr fun a o h => e2 a o nin h
    have t5 := t4.app t2
    have tn1 : ts1.length = m := by
      have := t1.1
      rw [List.length_map, List.length_range, List.length_map] at this
      omega
    have tn2 : ts2.length = m := by
      have := t2.1
      rw [List.length_map, List.length_range, List.length_map] at this
      omega
    walk_at "ev"
    rw [← List.map_append]
    intro s6 k6
    have z6 := z5.alloc (.lst ((ts1 ++ ts2).map V.ref)) k6
    have t6 := t5.more (o := .lst ((ts1 ++ ts2).map V.ref)) k6
    have et : (List.range ((seg d.A f (f + m)).map V.int).length).map (fun i => [V.int (nth (seg d.A f (f + m)) i), V.int 1]) ++ (List.range ((seg d.B f (f + m)).map V.int).length).map (fun i => [V.int (nth (seg d.B f (f + m)) i), V.int (-1)]) = (turnsOf d.a d.b f m).map pairV := by
      unfold turnsOf
      rw [List.map_append, List.map_map, List.map_map, List.length_map, List.length_map, sl, sl2, Nat.add_sub_cancel_left]
      congr 1
      · refine List.map_congr_left fun i hi => ?_
        rw [seg_nth (by omega) (by have := List.mem_range.mp hi; omega)]
        rfl
      · refine List.map_congr_left fun i hi => ?_
        rw [seg_nth (by omega) (by have := List.mem_range.mp hi; omega)]
        rfl
    rw [et] at t6
    have ul : (turnsOf d.a d.b f m).length = 2 * m := by
      unfold turnsOf
      rw [List.length_append, List.length_map, List.length_map, List.length_range]
      omega
    clear z1 z2 z3 z4 z5 k1 k2 k3 k6 t1 t2 t3 t4 t5 g5 g6 e1 e2 hD1 hD2 n1 n2 et
    walk_at "ev"
    refine r_sortT (SqL.of (z6.get (.head _))) t6 fun us qs sp pu pq hs tq hsp => ?_
    have z7 := z6.alloc (.lst (us.map V.ref)) hsp
    have t7 := tq.more (o := .lst (us.map V.ref)) hsp
    have f7 := z7.fr0 (by simp)
    have usl : us.length = 2 * m := by
      rw [pu.length_eq, List.length_append]
      omega
    have ql : qs.length = 2 * m := by rw [pq.length_eq, ul]
    have le := lex_le hs
    have ab : ∀ i, f ≤ i → i < f + m → d.a i ≤ d.b i := fun i _ h => ok.ab i (by omega)
    have mem : ∀ j, j < qs.length → ∃ i, f ≤ i ∧ i < f + m ∧ (pairAt qs j = (d.a i, 1) ∨ pairAt qs j = (d.b i, -1)) := fun j hj => by
      have h1 : pairAt qs j ∈ turnsOf d.a d.b f m := pq.subset (by
        unfold pairAt
        rw [List.getD_eq_getElem?_getD, List.getElem?_eq_getElem hj]
        exact List.getElem_mem hj)
      rcases List.mem_append.mp h1 with h1 | h1
      · obtain ⟨i, hi, e⟩ := List.mem_map.mp h1
        exact ⟨f + i, by omega, by have := List.mem_range.mp hi; omega, .inl e.symm⟩
      · obtain ⟨i, hi, e⟩ := List.mem_map.mp h1
        exact ⟨f + i, by omega, by have := List.mem_range.mp hi; omega, .inr e.symm⟩
    have bnd : ∀ j, j < qs.length → -(2 ^ 1000) ≤ (pairAt qs j).1 ∧ (pairAt qs j).1 ≤ 2 ^ 1000 ∧ -1 ≤ (pairAt qs j).2 ∧ (pairAt qs j).2 ≤ 1 := fun j hj => by
      obtain ⟨i, i1, i2, e⟩ := mem j hj
      obtain ⟨b1, b2, b3, b4⟩ := big i (by omega)
      rcases e with e | e <;> rw [e]
      · exact ⟨b1, b2, show (-1 : Int) ≤ 1 by decide, show (1 : Int) ≤ 1 by decide⟩
      · exact ⟨b3, b4, show (-1 : Int) ≤ -1 by decide, show (-1 : Int) ≤ 1 by decide⟩
    have gb : ∀ k, k ≤ qs.length → -(k : Int) ≤ lineG qs k ∧ lineG qs k ≤ k := fun k => by
      induction k with
      | zero => intro _; exact ⟨Int.le_refl _, Int.le_refl _⟩
      | succ k ih =>
        intro hk
        obtain ⟨h1, h2⟩ := ih (by omega)
        obtain ⟨_, _, h3, h4⟩ := bnd k (by omega)
        have e : lineG qs (k + 1) = lineG qs k + (pairAt qs k).2 := rfl
        omega
    clear z6 t6 pu tq hsp
    generalize upd (upd H2 s6 (.lst ((ts1 ++ ts2).map V.ref))) sp (.lst (us.map V.ref)) = Hs at z7 t7 f7 ⊢
    obtain ⟨t0, u0, h0'⟩ := t7.pair (i := 0) (by omega)
    walk_at "ev"
    refine r_at (i := (0 : Nat)) (atI_nat (by rw [List.getElem?_map, u0]; rfl)) ?_
    walk_at "ev"
    refine for_it (walk_list (xs := us.map V.ref)) (fun i σ H' => ∃ (v1 v2 v3 : Option V) (ra : Int), σ = [some (.ref bt), some (.ref pt), some (.int c), some (.ref l1), some (.ref l2), some (.ref l3), some (.ref l4), some (.int f), some (.int (f + m : Nat)), some (.bl L), some (.bl R), some (.int need), some (.int (S + lineS qs i ra)), some (.int (lineG qs i)), some (.ref sp), some (.int ra), v1, v2, v3, none] ∧ H' = Hs ∧
      (∀ j, j < i → (pairAt qs j).1 ≤ ra) ∧ (i < qs.length → ra ≤ (pairAt qs i).1) ∧ (pairAt qs 0).1 ≤ ra ∧ (∃ j, j < qs.length ∧ ra = (pairAt qs j).1) ∧ S + lineS qs i ra < need) ⟨none, none, none, (pairAt qs 0).1, ?_, rfl, (fun j hj => absurd hj (by omega)), (fun _ => Int.le_refl _), Int.le_refl _, ⟨0, by omega, rfl⟩, ?_⟩ (fun i σ H' _ p => ?_) (fun i x σ H' H'' hi p y => ?_) (fun σ H' p => ?_)
    · have e1 : lineS qs 0 (pairAt qs 0).1 = 0 := rfl
      rw [e1, Int.add_zero]
      rfl
    · have e1 : lineS qs 0 (pairAt qs 0).1 = 0 := rfl
      omega
    · obtain ⟨v1, v2, v3, ra, _, rfl, _⟩ := p
      exact SqL.of (z7.get (.head _))
    · obtain ⟨v1, v2, v3, ra, rfl, rfl, p1, p2, p3, ⟨jr, p4, p4'⟩, p5⟩ := p
      obtain ⟨rfl, hx⟩ := y
      rw [List.length_map] at hi
      obtain ⟨t, ut, ht⟩ := t7.pair (i := i) hi
      rw [List.getElem?_map, ut] at hx
      obtain rfl := Option.some.inj hx
      obtain ⟨b1, b2, b3, b4⟩ := bnd i (by omega)
      obtain ⟨b5, b6, _, _⟩ := bnd jr p4
      have b7 := gb i (by omega)
      have p2' := p2 (by omega)
      walk_at "ev"
      refine r_I (wide_mul (a := 20) (b := 1010) (natAbs_lt (by omega) (by omega)) (natAbs_lt (by omega) (by omega)) (by decide) (by decide) (by decide)) ?_
      walk_at "ev"
      have mv := line_move (l := qs) ra (pairAt qs i).1 i
      refine r_ite (fun c2 => ?_) (fun c2 => ?_)
      · -- the sums pass what is needed
        obtain ⟨f1, f2, f3⟩ := even_found ab pq le (k := i) (by omega) p1 p2' (by rw [hS]; exact p5) (by rw [hS]; omega)
        rw [hS] at f2 f3
        walk_at "ev"
        refine r_I (wide_div (b := 20) f1 (natAbs_lt (by omega) (by omega)) (by decide) (by decide)) ?_
        walk_at "ev"
        refine k _ _ f7 (.inr ⟨?_, f3⟩)
        obtain ⟨i0, i1, i2, e⟩ := mem 0 (by omega)
        refine ⟨i0, i1, i2, ?_⟩
        have := ab i0 i1 i2
        rcases e with e | e
        · rw [e] at p3
          have p3 : d.a i0 ≤ ra := p3
          omega
        · rw [e] at p3
          have p3 : d.b i0 ≤ ra := p3
          omega
      · walk_at "ev"
        have ls := line_step (l := qs) i
        refine ⟨some (.int (pairAt qs i).1), some (.int (pairAt qs i).2), some (.int (S + lineS qs i ra + lineG qs i * ((pairAt qs i).1 - ra))), (pairAt qs i).1, ?_, rfl, fun j hj => le j i (by omega) (by omega), fun h => le i (i + 1) (by omega) h, le 0 i (by omega) (by omega), ⟨i, by omega, rfl⟩, by omega⟩
        rw [ls, mv, ← Int.add_assoc]
        rfl
    · obtain ⟨v1, v2, v3, ra, rfl, rfl, p1, p2, p3, _, p5⟩ := p
      rw [List.length_map, usl, ← ql] at p1 p5
      exact (even_never ab pq p1 (by rw [hS]; exact p5) hn).elim
end
set_option Elab.async false
set_option linter.all false
set_option maxRecDepth 100000
set_option maxHeartbeats 4000000
set_option exponentiation.threshold 2000
def partT (p : Part) : List V := [.int (p.f : Nat), .int (p.t : Nat), .bl p.L, .bl p.R, .int p.lw, .int p.hg]
theorem fill_map {ls : List Int} {f t : Nat} {x : Int} : (ls.map V.int).take f ++ (List.replicate (t - f) [V.int x]).flatten ++ (ls.map V.int).drop t = (fillL ls f t x).map V.int := by
  unfold fillL
  rw [List.map_append, List.map_append, List.map_take, List.map_drop, List.map_replicate]
  congr 2
  generalize t - f = k
  induction k with
  | zero => rfl
  | succ k ih => rw [List.replicate_succ, List.flatten_cons, ih, List.replicate_succ]; rfl
abbrev PD.BestX (d : PD) (X : Nat → Int) : Prop := BestS d.L.length d.lo d.hi d.a d.b X
theorem PD.Has.best {d : PD} (h : d.Has) : ∃ X, d.BestX X := by
  obtain ⟨X, r⟩ := h
  exact r.best
theorem PD.Ok.totF {d : PD} (ok : d.Ok) : d.lo d.L.length = d.hi d.L.length := by
  have one := ok.one
  have lU := ok.lU
  have tot := ok.tot
  obtain ⟨k, hk⟩ : ∃ k, d.L.length = k + 1 := ⟨d.L.length - 1, by omega⟩
  rw [hk, PD.loS, PD.hiS]
  rw [hk, Nat.add_sub_cancel] at tot
  exact tot
theorem replicate_zero (n : Nat) : (List.replicate n [V.int 0]).flatten = (List.replicate n (0 : Int)).map V.int := by
  induction n with
  | zero => rfl
  | succ n ih => rw [List.replicate_succ, List.flatten_cons, ih, List.replicate_succ]; rfl
section
variable {P : Program} {w : World} {K : PySem.W.Frag} {mg : Str → Option Value} {base : Heap}
def LSum : List Part → Nat
  | [] => 0
  | p :: ps => (p.t - p.f) + LSum ps
theorem LSum_app (ps qs : List Part) : LSum (ps ++ qs) = LSum ps + LSum qs := by
  induction ps with
  | nil => simp [LSum]
  | cons p ps ih => simp only [List.cons_append, LSum, ih]; omega
theorem LSum_new {p : Part} {rate : Int} : ∀ rs : List Run, LSum (rs.map (newPart p rate)) = RunsLen rs
  | [] => rfl
  | r :: rs => by
    show (p.f + r.t - (p.f + r.f)) + LSum (rs.map (newPart p rate)) = (r.t - r.f) + RunsLen rs
    rw [LSum_new rs]
    omega
theorem LSum_len {n : Nat} {lo hi a b X : Nat → Int} {c0 : Int} : ∀ {ps : List Part}, (∀ p ∈ ps, PartOK n lo hi a b X c0 p) → ps.length ≤ LSum ps
  | [], _ => Nat.le_refl _
  | p :: ps, h => by
    have h1 := LSum_len (ps := ps) fun q hq => h q (List.mem_cons_of_mem _ hq)
    have h2 := (h p List.mem_cons_self).ft
    show ps.length + 1 ≤ (p.t - p.f) + LSum ps
    omega
/-- what holds at the head of the loop -/
def LvP (H : Hp) (d : PD) (c0 : Int) (p bt lv pa s3 s6 s7 s8 : Addr) (m : Nat) (σ : L2.St) (H' : Hp) : Prop := ∃ (PS : List Part) (ps : List Addr) (ls : List Int) (u4 u5 u6 u7 u8 u9 u10 u11 u12 u13 u14 u15 u16 u17 u18 : Option V),
  σ = [some (.ref p), some (.ref bt), some (.ref lv), some (.ref pa), u4, u5, u6, u7, u8, u9, u10, u11, u12, u13, u14, u15, u16, u17, u18] ∧
  Z H H' [(2, pa, .lst (ps.map V.ref)), (2, lv, .lst (ls.map V.int)), (2, bt, .tup [.ref s3, .ref s6, .ref s7, .ref s8]), (2, s3, .lst ((0 :: d.L).map V.int)), (2, s6, .lst ((0 :: d.U).map V.int)), (2, s7, .lst (d.A.map V.int)), (2, s8, .lst (d.B.map V.int))] ∧
  TL H' ps (PS.map partT) ∧ LInv d.L.length d.lo d.hi d.a d.b c0 PS ls ∧ m = PM PS ∧ LSum PS ≤ d.L.length
theorem mem_nthL {ns : List Int} {i : Nat} (h : i < ns.length) : nth ns i ∈ ns := by
  unfold nth
  rw [List.getD_eq_getElem?_getD, List.getElem?_eq_getElem h]
  exact List.getElem_mem h
theorem need_all {d : PD} (ok : d.Ok) {X : Nat → Int} (r : d.BestX X) {c0 : Int} {f m : Nat} {L R : Bool} {lw hg : Int} (k : PartOK d.L.length d.lo d.hi d.a d.b X c0 ⟨f, f + m, L, R, lw, hg⟩) : needP d f (f + m) L R ≤ sumF d.b (f + m) - sumF d.b f := by
  have h1 : needP d f (f + m) L R ≤ X (f + m) - X f := k.need_le r.row ok.totF
  have h2 := seg_mono (g := ent X) (h := d.b) (f := f) (t := f + m) (by omega) fun i i1 i2 => r.row.ent_most (by have := k.tn; have : f + m ≤ d.L.length := this; omega)
  rw [sum_ent (by omega)] at h2
  omega
theorem rate_gt {d : PD} (ok : d.Ok) {X : Nat → Int} (r : d.BestX X) {c0 : Int} (h0 : ∀ i, i < d.L.length → c0 < d.a i) {f m : Nat} {L R : Bool} {lw hg : Int} (k : PartOK d.L.length d.lo d.hi d.a d.b X c0 ⟨f, f + m, L, R, lw, hg⟩) {x : Int}
    (h : x = lw ∨ ((∃ i, f ≤ i ∧ i < f + m ∧ d.a i ≤ x) ∧ needP d f (f + m) L R ≤ sumF (eF d (x + 1)) (f + m) - sumF (eF d (x + 1)) f)) : lw ≤ x := by
  rcases h with h | ⟨⟨i, i1, i2, i3⟩, h⟩
  · omega
  · have tn : f + m ≤ d.L.length := k.tn
    have cl : c0 ≤ lw := k.cl
    have := h0 i (by omega)
    by_cases e : c0 < lw
    · by_cases g : lw ≤ x
      · exact g
      · have h1 : sumF (fun i => clampF d.a d.b i lw) (f + m) - sumF (fun i => clampF d.a d.b i lw) f < needP d f (f + m) L R := k.need_gt r ok.totF d.hi0 e
        have h2 := seg_mono (g := eF d (x + 1)) (h := fun i => clampF d.a d.b i lw) (f := f) (t := f + m) (by omega) fun i _ _ => by
          show min (d.b i) (max (d.a i) (x + 1)) ≤ min (d.b i) (max (d.a i) lw)
          omega
        omega
    · omega
theorem inB_ins {d : PD} (ok : d.Ok) {X : Nat → Int} (r : d.BestX X) {c0 : Int} {f m : Nat} {L R : Bool} {lw hg rate : Int} (k : PartOK d.L.length d.lo d.hi d.a d.b X c0 ⟨f, f + m, L, R, lw, hg⟩) (h1 : lw < rate) (h2 : rate ≤ hg) {i : Nat} (hi : i < m) :
    (inB d f m L R rate).getD i false = true ↔ Ins d.L.length d.lo d.hi d.a d.b X rate (f + i) := by
  have tn : f + m ≤ d.L.length := k.tn
  have h := back_ins r ok.totF d.hi0 (k.flagL h1 h2) (k.flagR h1 h2) tn (m - i) (by omega)
  rw [show f + (m - (m - i)) = f + i by omega] at h
  unfold inB
  rw [List.getD_eq_getElem?_getD, List.getElem?_map, List.getElem?_range hi]
  exact h
def sp_levels_of (K : PySem.W.Frag) : Sp := fun vs H Q _ => ∃ (p : Addr) (d : PD), vs = [.ref p] ∧ PlanAt K [] H p d ∧ d.Ok ∧ d.Has ∧ d.Bd ∧ ∀ r H' (ls : List Int) c0, H r = none → Fr [] H H' → H' r = some (.lst (ls.map V.int)) → ((∀ i, i < d.L.length → c0 < d.a i) ∧ c0 + 1 ∈ d.A) → LInv d.L.length d.lo d.hi d.a d.b c0 [] ls → Q (.ref r) H'
theorem k_levels_of (T : Tx fa fn K mg base) : Fk P w K mg base "levels_of" ["plan"] 6 (sp_levels_of K) s_levels_of "levels_of" := by
  refine T.fk 29 45 (q := "levels_of") (st := s_levels_of) sc_levels_of (fun _ _ _ _ _ _ us hl => match us, hl with | [_], _ => rfl) (fun vs H Q E h => ?_) (fun cdv A outer s H vs Q E hr h => ?_)
  · obtain ⟨p, d, rfl, _⟩ := h
    rfl
  · obtain ⟨p, d, rfl, pd, ok, has, big, k⟩ := h
    have one := ok.one
    have most := ok.most
    have lU := ok.lU
    have lA := ok.lA
    have lB := ok.lB
    refine ⟨_, (pss_cons (ps_expr (pe_f (k_check_rows T) hr (pa_cons (pv 0) pa_nil)))
      (pss_cons (ps_set (i := 1) sc_levels_of.nd rfl (by first | exact Or.inl rfl | exact Or.inr rfl) (pe_tup (pa_cons (pe_op op_cat (pe_lst (pa_cons pe_int pa_nil)) (pe_pr (pv 0) (k_Plan_low T) hr)) (pa_cons (pe_op op_cat (pe_lst (pa_cons pe_int pa_nil)) (pe_pr (pv 0) (k_Plan_high T) hr)) (pa_cons (pe_pr (pv 0) (k_Plan_least T) hr) (pa_cons (pe_pr (pv 0) (k_Plan_most T) hr) pa_nil))))))
      (pss_cons (ps_set (i := 2) sc_levels_of.nd rfl (by first | exact Or.inl rfl | exact Or.inr rfl) (pe_op op_rep (pe_lst (pa_cons pe_int pa_nil)) (pe_callB (cr_lenP (k_Plan___len__ T) (hr.mono (by decide))) (by rfl) (T.fr 6) (by decide +kernel) (pa_cons (pv 0) pa_nil))))
      (pss_cons (ps_set (i := 3) sc_levels_of.nd rfl (by first | exact Or.inl rfl | exact Or.inr rfl) (pe_lst (pa_cons (pe_tup (pa_cons pe_int (pa_cons (pe_callB (cr_lenP (k_Plan___len__ T) (hr.mono (by decide))) (by rfl) (T.fr 6) (by decide +kernel) (pa_cons (pv 0) pa_nil)) (pa_cons pe_bl (pa_cons pe_bl (pa_cons (pe_op op_sub (pe_callB (cr_min rfl) (by rfl) (T.fr 15) (by decide +kernel) (pa_cons (pe_pr (pv 0) (k_Plan_least T) hr) pa_nil)) pe_int) (pa_cons (pe_op op_sub (pe_callB (cr_max rfl) (by rfl) (T.fr 16) (by decide +kernel) (pa_cons (pe_pr (pv 0) (k_Plan_most T) hr) pa_nil)) pe_int) pa_nil))))))) pa_nil)))
      (pss_cons (ps_while PassesOwn.never (pt_tru (pv 3)) (pss_cons (ps_asg (pe_bm0 PySem.F.plainAttrs_list PySem.F.slot_list_pop PySem.F.type_list_pop mt_pop (pv 3)) (pg_tup rfl (pgs_cons (pg_name (i := 4) sc_levels_of.nd rfl (by first | exact Or.inl rfl | exact Or.inr rfl)) (pgs_cons (pg_name (i := 5) sc_levels_of.nd rfl (by first | exact Or.inl rfl | exact Or.inr rfl)) (pgs_cons (pg_name (i := 6) sc_levels_of.nd rfl (by first | exact Or.inl rfl | exact Or.inr rfl)) (pgs_cons (pg_name (i := 7) sc_levels_of.nd rfl (by first | exact Or.inl rfl | exact Or.inr rfl)) (pgs_cons (pg_name (i := 8) sc_levels_of.nd rfl (by first | exact Or.inl rfl | exact Or.inr rfl)) (pgs_cons (pg_name (i := 9) sc_levels_of.nd rfl (by first | exact Or.inl rfl | exact Or.inr rfl)) pgs_nil))))))))
      (pss_cons (ps_if (pt_cmpR op_eq (pv 8) (pv 9) (nomark _)) (pss_cons (ps_asg (pe_op op_rep (pe_lst (pa_cons (pv 8) pa_nil)) (pe_op op_sub (pv 5) (pv 4))) (pg_slice (pv 2) (po_some (pv 4)) (po_some (pv 5))))
      (pss_one ps_continue)) pss_nil)
      (pss_cons (ps_set (i := 10) sc_levels_of.nd rfl (by first | exact Or.inl rfl | exact Or.inr rfl) (pe_tup (pa_cons (pv 4) (pa_cons (pv 5) (pa_cons (pv 6) (pa_cons (pv 7) pa_nil))))))
      (pss_cons (ps_set (i := 11) sc_levels_of.nd rfl (by first | exact Or.inl rfl | exact Or.inr rfl) (pe_callB (call_min2 rfl) (by rfl) (T.fr 15) (by decide +kernel) (pa_cons (pv 9) (pa_cons (pe_op op_add (pe_f (k__even_rate T) hr (pa_cons (pv 1) (pa_cons (pv 10) (pa_cons (pv 8) pa_nil)))) pe_int) pa_nil))))
      (pss_cons (ps_set (i := 12) sc_levels_of.nd rfl (by first | exact Or.inl rfl | exact Or.inr rfl) (pe_f (k__inside_part T) hr (pa_cons (pv 1) (pa_cons (pv 10) (pa_cons (pv 11) pa_nil)))))
      (pss_one (ps_for PassesOwn.never rfl (pi_list (pe_f (k_runs_of T) hr (pa_cons (pv 12) pa_nil))) (pg_tup rfl (pgs_cons (pg_name (i := 13) sc_levels_of.nd rfl (by first | exact Or.inl rfl | exact Or.inr rfl)) (pgs_cons (pg_name (i := 14) sc_levels_of.nd rfl (by first | exact Or.inl rfl | exact Or.inr rfl)) (pgs_cons (pg_name (i := 15) sc_levels_of.nd rfl (by first | exact Or.inl rfl | exact Or.inr rfl)) pgs_nil)))) (Evl.pss_cut (ps_set (i := 16) sc_levels_of.nd rfl (by first | exact Or.inl rfl | exact Or.inr rfl) (pe_ifExp (pt_cmpR op_eq (pv 13) pe_int (nomark _)) (pv 6) (pe_not (pv 15))))
      (Evl.pss_cut (ps_set (i := 17) sc_levels_of.nd rfl (by first | exact Or.inl rfl | exact Or.inr rfl) (pe_ifExp (pt_cmpR op_eq (pv 14) (pe_callB call_len_seq (by rfl) (T.fr 6) (by decide +kernel) (pa_cons (pv 12) pa_nil)) (nomark _)) (pv 7) (pe_not (pv 15))))
      (Evl.pss_cut (ps_set (i := 18) sc_levels_of.nd rfl (by first | exact Or.inl rfl | exact Or.inr rfl) (pe_ifExp (pt_val (pv 15)) (pe_tup (pa_cons (pv 11) (pa_cons (pv 9) pa_nil))) (pe_tup (pa_cons (pv 8) (pa_cons (pe_op op_sub (pv 11) pe_int) pa_nil)))))
      (pss_one (ps_expr (pe_bm PySem.F.plainAttrs_list PySem.F.slot_list_append PySem.F.type_list_append mt_append (pv 3) (pa_cons (pe_tup (pa_cons (pe_op op_add (pv 4) (pv 13)) (pa_cons (pe_op op_add (pv 4) (pv 14)) (pa_cons (pv 16) (pa_cons (pv 17) (StX.pa_star (pv 18) pa_nil)))))) pa_nil)))))))))))))))
      (pss_one (ps_ret (pv 2)))))))), ?_⟩
    walk_at "ev0"
    refine ⟨p, d, rfl, pd, ok, has, fun H1 f1 => ?_⟩
    have z1 := (Z.start0 H).same f1
    walk_at "ev"
    intro s1 k1
    have z2 := z1.alloc (.lst [.int 0]) k1
    walk_at "ev"
    refine r_pl (pd.mono (z2.fr0 (by simp))) fun s2 k2 => ?_
    have z3 := z2.alloc (.lst (d.L.map V.int)) k2
    walk_at "ev"
    rw [show [V.int 0] ++ d.L.map V.int = (0 :: d.L).map V.int from rfl]
    intro s3 k3
    have z4 := z3.alloc (.lst ((0 :: d.L).map V.int)) k3
    walk_at "ev"
    intro s4 k4
    have z5 := z4.alloc (.lst [.int 0]) k4
    walk_at "ev"
    refine r_pl (pd.mono (z5.fr0 (by simp))) fun s5 k5 => ?_
    have z6 := z5.alloc (.lst (d.U.map V.int)) k5
    walk_at "ev"
    rw [show [V.int 0] ++ d.U.map V.int = (0 :: d.U).map V.int from rfl]
    intro s6 k6
    have z7 := z6.alloc (.lst ((0 :: d.U).map V.int)) k6
    walk_at "ev"
    refine r_pl (pd.mono (z7.fr0 (by simp))) fun s7 k7 => ?_
    have z8 := z7.alloc (.lst (d.A.map V.int)) k7
    walk_at "ev"
    refine r_pl (pd.mono (z8.fr0 (by simp))) fun s8 k8 => ?_
    have z9 := z8.alloc (.lst (d.B.map V.int)) k8
    walk_at "ev"
    intro bt kb
    have z10 := z9.alloc (.tup [.ref s3, .ref s6, .ref s7, .ref s8]) kb
    have zz := z10.sel (N := [(bt, .tup [.ref s3, .ref s6, .ref s7, .ref s8]), (s3, .lst ((0 :: d.L).map V.int)), (s6, .lst ((0 :: d.U).map V.int)), (s7, .lst (d.A.map V.int)), (s8, .lst (d.B.map V.int))]) (by simp) [0, 6, 3, 2, 1] rfl
    simp only [List.map_cons, List.map_nil] at zz
    clear z1 z2 z3 z4 z5 z6 z7 z8 z9 z10 k1 k2 k3 k4 k5 k6 k7 k8 kb
    walk_at "ev"
    intro s9 k9
    have y1 := zz.alloc (.lst [.int 0]) k9
    walk_at "ev"
    refine r_lenD (pd.mono (y1.fr0 (by simp))) (by omega) ?_
    walk_at "ev"
    refine ⟨s9, _, _, rfl, rfl, y1.get (.head _), by omega, by omega, small1000' (by simp; omega), fun lv kl => ?_⟩
    rw [Int.toNat_natCast, replicate_zero]
    have y2 := y1.alloc (.lst ((List.replicate d.L.length (0 : Int)).map V.int)) kl
    walk_at "ev"
    refine r_lenD (pd.mono (y2.fr0 (by simp))) (by omega) ?_
    walk_at "ev"
    refine r_pl (pd.mono (y2.fr0 (by simp))) fun s10 k10 => ?_
    have y3 := y2.alloc (.lst (d.A.map V.int)) k10
    walk_at "ev"
    refine ⟨s10, d.A, rfl, SqL.of (y3.get (.head _)), by omega, fun mi hmi hmi2 => ?_⟩
    walk_at "ev"
    refine r_pl (pd.mono (y3.fr0 (by simp))) fun s11 k11 => ?_
    have y4 := y3.alloc (.lst (d.B.map V.int)) k11
    walk_at "ev"
    refine ⟨s11, d.B, rfl, SqL.of (y4.get (.head _)), by omega, fun ma hma hma2 => ?_⟩
    walk_at "ev"
    intro pt0 kp0
    have y5 := y4.alloc (.tup (partT ⟨0, d.L.length, false, false, mi - 1, ma - 1⟩)) kp0
    have tl0 := (TL.nil _).add (v := partT ⟨0, d.L.length, false, false, mi - 1, ma - 1⟩) (y5.get (.head _))
    walk_at "ev"
    intro pa kpa
    have y6 := y5.alloc (.lst [.ref pt0]) kpa
    have tl1 := tl0.more (o := .lst [.ref pt0]) kpa
    have yy := y6.sel (N := [(pa, .lst [.ref pt0]), (lv, .lst ((List.replicate d.L.length (0 : Int)).map V.int)), (bt, .tup [.ref s3, .ref s6, .ref s7, .ref s8]), (s3, .lst ((0 :: d.L).map V.int)), (s6, .lst ((0 :: d.U).map V.int)), (s7, .lst (d.A.map V.int)), (s8, .lst (d.B.map V.int))]) (by simp) [0, 4, 6, 7, 8, 9, 10] rfl
    simp only [List.map_cons, List.map_nil] at yy
    clear y1 y2 y3 y4 y5 y6 k9 kl k10 k11 kp0 kpa tl0 zz
    walk_at "ev"
    have hc0 : ∀ i, i < d.L.length → mi - 1 < d.a i := fun i hi => by
      have := hmi2 (nth d.A i) (mem_nthL (by omega))
      show mi - 1 < nth d.A i
      omega
    have hcb : ∀ i, i < d.L.length → d.b i ≤ ma - 1 + 1 := fun i hi => by
      have := hma2 (nth d.B i) (mem_nthL (by omega))
      show nth d.B i ≤ _
      omega
    have hle : mi - 1 ≤ ma - 1 := by
      have h1 := hc0 0 (by omega)
      have h2 := hcb 0 (by omega)
      have h3 : d.a 0 ≤ d.b 0 := ok.ab 0 (by omega)
      omega
    have inv0 : LInv d.L.length d.lo d.hi d.a d.b (mi - 1) [⟨0, d.L.length, false, false, mi - 1, ma - 1⟩] (List.replicate d.L.length (0 : Int)) := LInv.start (by omega) hle hcb (by simp)
    obtain ⟨X0, rX0⟩ := has.best
    have hcA : mi - 1 + 1 ∈ d.A := by rw [Int.sub_add_cancel]; exact hmi
    generalize hcc : mi - 1 = c0 at *
    refine ⟨LvP H d c0 p bt lv pa s3 s6 s7 s8, ⟨_, [_], [pt0], _, none, none, none, none, none, none, none, none, none, none, none, none, none, none, none, rfl, yy, tl1, inv0, rfl, Nat.le_refl _⟩, fun mm σ H' pv => ?_⟩
    obtain ⟨PS, ps, ls, u4, u5, u6, u7, u8, u9, u10, u11, u12, u13, u14, u15, u16, u17, u18, rfl, z, tl, inv, rfl, hls⟩ := pv
    clear yy tl1 inv0
    walk_at "ev"
    have pl : ps.length = PS.length := by
      have := tl.1
      rw [List.length_map] at this
      exact this
    rcases List.eq_nil_or_concat PS with rfl | ⟨PS', q, rfl⟩
    · have e : ps = [] := List.eq_nil_of_length_eq_zero pl
      subst e
      refine iteF ?_
      walk_at "ev"
      exact k lv H' ls c0 (z.fresh (2, lv, _) (.tail _ (.head _)) rfl) (z.fr0 (by simp)) (z.get (.tail _ (.head _))) ⟨hc0, hcA⟩ inv
    · rw [List.concat_eq_append] at *
      rcases List.eq_nil_or_concat ps with rfl | ⟨ps', t, rfl⟩
      · rw [List.length_append] at pl
        simp at pl
      rw [List.concat_eq_append] at *
      have ne : (!((ps' ++ [t]).map V.ref).isEmpty) = true := by simp
      rw [ne]
      refine iteT ?_
      refine ⟨fun σ' H'' => ∃ m', m' < PM (PS' ++ [q]) ∧ LvP H d c0 p bt lv pa s3 s6 s7 s8 m' σ' H'', fun σ' H'' h => h, ?_⟩
      obtain ⟨f, t2, L, R, lw, hg⟩ := q
      have pk0 := inv.ok X0 rX0 _ (List.mem_append_right _ List.mem_cons_self)
      have q1 : f < t2 := pk0.ft
      have q2 : t2 ≤ d.L.length := pk0.tn
      have q3 : lw ≤ hg := pk0.lh
      obtain ⟨m, rfl⟩ : ∃ m, t2 = f + m := ⟨t2 - f, by omega⟩
      have pl2 : ps'.length = PS'.length := by
        rw [List.length_append, List.length_append] at pl
        simp at pl
        exact pl
      have ht : H' t = some (.tup (partT ⟨f, f + m, L, R, lw, hg⟩)) := by
        have := tl.2 ps'.length t (by rw [List.getElem?_concat_length])
        rw [this, List.getD_eq_getElem?_getD, List.map_append, pl2, List.getElem?_append_right (by rw [List.length_map]; omega), List.length_map, Nat.sub_self]
        rfl
      have tl' : TL H' ps' (PS'.map partT) := ⟨by rw [List.length_map]; exact pl2, fun i a h => by
        have hl := (List.getElem?_eq_some_iff.mp h).1
        have := tl.2 i a (by rw [List.getElem?_append_left hl]; exact h)
        rw [this, List.getD_eq_getElem?_getD, List.getD_eq_getElem?_getD, List.map_append, List.getElem?_append_left (by rw [List.length_map]; omega)]⟩
      unfold partT at ht
      dsimp only at ht
      have hpa := z.get (.head _)
      rw [List.map_append] at hpa
      walk_at "ev"
      refine r_pop hpa ?_
      have z1 := z.set 0 (.lst (ps'.map V.ref)) rfl (.inr rfl)
      have tl1 := tl'.put (o := .lst (ps'.map V.ref)) hpa
      have ht1 : (upd H' pa (.lst (ps'.map V.ref))) t = some (.tup [.int f, .int (f + m : Nat), .bl L, .bl R, .int lw, .int hg]) := by
        rw [upd_ne (fun e => by rw [e, hpa] at ht; cases ht)]
        exact ht
      generalize hH1 : upd H' pa (.lst (ps'.map V.ref)) = H1' at z1 tl1 ht1 ⊢
      clear tl tl' ht hpa z hH1
      walk_at "ev"
      refine r_ite (fun c1 => ?_) (fun c1 => ?_)
      · have c1' : lw = hg := by injection c1
        walk_at "ev"
        intro s1 k1
        have z2 := z1.alloc (.lst [.int lw]) k1
        have tl2 := tl1.more (o := .lst [.int lw]) k1
        walk_at "ev"
        refine ⟨s1, _, _, rfl, rfl, z2.get (.head _), by omega, by omega, small1000' (by simp; omega), fun s2 k2 => ?_⟩
        rw [show (((f + m : Nat) : Int) - (f : Int)).toNat = m by omega]
        have z3 := z2.alloc (.lst (List.replicate m [V.int lw]).flatten) k2
        have tl3 := tl2.more (o := .lst (List.replicate m [V.int lw]).flatten) k2
        have ll := inv.len
        walk_at "ev"
        refine r_exgsl (z3.get (.tail _ (.tail _ (.tail _ (.head _))))) (z3.get (.head _)) (z3.ne 0 3 rfl rfl (by decide)) (by omega) (by omega) (by rw [List.length_map]; omega) (small1000' (by simp; omega)) ?_
        rw [Int.toNat_natCast, Int.toNat_natCast]
        have em : (ls.map V.int).take f ++ (List.replicate m [V.int lw]).flatten ++ (ls.map V.int).drop (f + m) = (fillL ls f (f + m) lw).map V.int := by
          rw [← fill_map, Nat.add_sub_cancel_left]
        rw [em]
        have z4 := z3.set 3 (.lst ((fillL ls f (f + m) lw).map V.int)) rfl (.inr rfl)
        have tl4 := tl3.put (o := .lst ((fillL ls f (f + m) lw).map V.int)) (z3.get (.tail _ (.tail _ (.tail _ (.head _)))))
        walk_at "ev"
        refine ⟨PM PS', ?_, PS', ps', fillL ls f (f + m) lw, _, _, _, _, _, _, _, _, _, _, _, _, _, _, _, rfl, z4.sub (.cons _ (.cons _ (List.Sublist.refl _))) (by simp), tl4, LInv.fill inv c1' (Nat.le_of_lt q1) q2, rfl, by rw [LSum_app] at hls; omega⟩
        rw [PM_app]
        have := pm_pos ⟨f, f + m, L, R, lw, hg⟩
        show PM PS' < PM PS' + (pm _ + 0)
        omega
      · have c1' : lw < hg := by
          rcases Int.lt_or_eq_of_le q3 with h | h
          · exact h
          · exact absurd (by rw [h]) c1
        walk_at "ev"
        intro pt kpt
        have z2 := z1.alloc (.tup [.int f, .int (f + m : Nat), .bl L, .bl R]) kpt
        have tl2 := tl1.more (o := .tup [.int f, .int (f + m : Nat), .bl L, .bl R]) kpt
        walk_at "ev"
        refine ⟨bt, pt, d, f, m, L, R, lw, rfl, ⟨s3, s6, s7, s8, z2.get (.tail _ (.tail _ (.tail _ (.head _)))), z2.get (.tail _ (.tail _ (.tail _ (.tail _ (.head _))))), z2.get (.tail _ (.tail _ (.tail _ (.tail _ (.tail _ (.head _)))))), z2.get (.tail _ (.tail _ (.tail _ (.tail _ (.tail _ (.tail _ (.head _))))))), z2.get (.tail _ (.tail _ (.tail _ (.tail _ (.tail _ (.tail _ (.tail _ (.head _)))))))) ⟩, ok, big, z2.get (.head _), ⟨by omega, q2⟩, need_all ok rX0 pk0, fun x H3 f3 hx => ?_⟩
        have hx2 := rate_gt ok rX0 hc0 pk0 hx
        clear hx
        have z3 := z2.same f3
        have tl3 := tl2.fr fun a o h => f3 a o nin h
        walk_at "ev"
        rw [ifmin]
        obtain ⟨rate, hrate⟩ : ∃ rate, rate = min hg (x + 1) := ⟨_, rfl⟩
        rw [← hrate]
        have r1 : lw < rate := by omega
        have r2 : rate ≤ hg := by omega
        clear hrate hx2 f3 z2 tl2
        walk_at "ev"
        refine ⟨bt, pt, d, f, m, L, R, rate, rfl, ⟨s3, s6, s7, s8, z3.get (.tail _ (.tail _ (.tail _ (.head _)))), z3.get (.tail _ (.tail _ (.tail _ (.tail _ (.head _))))), z3.get (.tail _ (.tail _ (.tail _ (.tail _ (.tail _ (.head _)))))), z3.get (.tail _ (.tail _ (.tail _ (.tail _ (.tail _ (.tail _ (.head _))))))), z3.get (.tail _ (.tail _ (.tail _ (.tail _ (.tail _ (.tail _ (.tail _ (.head _)))))))) ⟩, ok, z3.get (.head _), ⟨by omega, q2⟩, fun ip H4 hip f4 g4 => ?_⟩
        have z4 := z3.comp f4 hip g4
        have tl4 := tl3.fr fun a o h => f4 a o nin h
        clear hip f4 g4 tl3
        have il : (inB d f m L R rate).length = m := inB_len
        have hb : ∀ X, d.BestX X → ∀ i, i < (inB d f m L R rate).length → ((inB d f m L R rate).getD i false = true ↔ Ins d.L.length d.lo d.hi d.a d.b X rate (f + i)) := fun X r i hi => inB_ins ok r (inv.ok X r _ (List.mem_append_right _ List.mem_cons_self)) r1 r2 (by rw [il] at hi; exact hi)
        have inv' := inv.cut (rate := rate) r1 r2 (bs := inB d f m L R rate) (by rw [il]; show m = f + m - f; omega) q1 hb
        have meas : PM ((runsV ((inB d f m L R rate).map V.bl)).map (newPart ⟨f, f + m, L, R, lw, hg⟩ rate)) < pm ⟨f, f + m, L, R, lw, hg⟩ := pm_cut (p := ⟨f, f + m, L, R, lw, hg⟩) r1 r2 q1 (by rw [runsV_len, List.length_map, il]; show m = f + m - f; omega) (runs_count (runsV_is _))
        have isR := runsV_is ((inB d f m L R rate).map V.bl)
        have item : ∀ r ∈ runsV ((inB d f m L R rate).map V.bl), r.v = .bl (wOf r.v) ∧ r.t ≤ m := fun r hr => by
          obtain ⟨i1, i2, i3, _, _⟩ := isR r hr
          rw [List.length_map, il] at i2
          refine ⟨?_, i2⟩
          rw [← i3 r.f (Nat.le_refl _) i1]
          unfold itemV
          rw [List.getD_eq_getElem?_getD, List.getElem?_map, List.getElem?_eq_getElem (by omega)]
          rfl
        generalize hrs : runsV ((inB d f m L R rate).map V.bl) = rs at *
        walk_at "ev"
        refine ⟨ip, _, rfl, z4.get (.head _), ⟨by rw [List.length_map]; omega, by rw [List.length_map]; omega⟩, fun x hx y hy => ?_, fun rp H5 ts hrp f5 g5 tls nts => ?_⟩
        · obtain ⟨b1, _, rfl⟩ := List.mem_map.mp hx
          obtain ⟨b2, _, rfl⟩ := List.mem_map.mp hy
          rfl
        rw [hrs] at tls
        have z5 := z4.comp f5 hrp g5
        have tl5 := tl4.fr fun a o h => f5 a o nin h
        clear hrp f5 g5 tl4 nts
        have tsl : ts.length = rs.length := by
          have := tls.1
          rw [List.length_map] at this
          exact this
        have rsl : rs.length ≤ 200 := by
          have h1 := runs_count isR
          rw [← hrs, runsV_len, List.length_map, il] at h1
          rw [← hrs]
          omega
        have psl : PS'.length + m ≤ 200 := by
          have h1 := LSum_len (ps := PS') fun q hq => inv.ok X0 rX0 q (List.mem_append_left _ hq)
          rw [LSum_app] at hls
          have h2 : LSum [⟨f, f + m, L, R, lw, hg⟩] = f + m - f + 0 := rfl
          omega
        have rsm : RunsLen rs = m := by rw [← hrs, runsV_len, List.length_map, il]
        have rsl2 : rs.length ≤ m := by
          have h1 := runs_count isR
          omega
        refine ⟨rp, rfl, ⟨_, SqL.of (z5.get (.head _))⟩, ?_⟩
        refine for_it (walk_list (xs := ts.map V.ref)) (fun j σ H' => ∃ (v13 v14 v15 v16 v17 v18 : Option V) (ws : List Addr), σ = [some (.ref p), some (.ref bt), some (.ref lv), some (.ref pa), some (.int f), some (.int (f + m : Nat)), some (.bl L), some (.bl R), some (.int lw), some (.int hg), some (.ref pt), some (.int rate), some (.ref ip), v13, v14, v15, v16, v17, v18] ∧
          Z H H' [(2, rp, .lst (ts.map V.ref)), (2, ip, .lst ((inB d f m L R rate).map V.bl)), (2, pt, .tup [.int f, .int (f + m : Nat), .bl L, .bl R]), (2, pa, .lst (ws.map V.ref)), (2, lv, .lst (ls.map V.int)), (2, bt, .tup [.ref s3, .ref s6, .ref s7, .ref s8]), (2, s3, .lst ((0 :: d.L).map V.int)), (2, s6, .lst ((0 :: d.U).map V.int)), (2, s7, .lst (d.A.map V.int)), (2, s8, .lst (d.B.map V.int))] ∧
          TL H' ws ((PS' ++ (rs.take j).map (newPart ⟨f, f + m, L, R, lw, hg⟩ rate)).map partT) ∧ TL H' ts (rs.map runT)) ⟨_, _, _, _, _, _, ps', rfl, z5, by rw [List.take_zero, List.map_nil, List.append_nil]; exact tl5, tls⟩ (fun j σ H' _ pv => ?_) (fun j x' σ H' H'' hj pv y => ?_) (fun σ H' pv => ?_)
        · obtain ⟨_, _, _, _, _, _, _, _, z, _⟩ := pv
          exact SqL.of (z.get (.head _))
        · obtain ⟨v13, v14, v15, v16, v17, v18, ws, rfl, z, tl, tls⟩ := pv
          obtain ⟨rfl, hx⟩ := y
          rw [List.length_map] at hj
          obtain ⟨t9, ht9⟩ : ∃ t9, ts[j]? = some t9 := ⟨_, List.getElem?_eq_getElem hj⟩
          obtain ⟨rn, hrn⟩ : ∃ rn, rs[j]? = some rn := ⟨_, List.getElem?_eq_getElem (by omega)⟩
          rw [List.getElem?_map, ht9] at hx
          obtain rfl := Option.some.inj hx
          have h9 := tls.2 j t9 ht9
          rw [List.getD_eq_getElem?_getD, List.getElem?_map, hrn] at h9
          obtain ⟨e1, e2⟩ := item rn (List.mem_of_getElem? hrn)
          generalize hw : wOf rn.v = wn at e1
          have h9 : H'' t9 = some (.tup [.int (rn.f : Nat), .int (rn.t : Nat), .bl wn]) := by rw [h9, ← e1]; rfl
          have wl : ws.length = PS'.length + j := by
            have := tl.1
            rw [List.length_map, List.length_append, List.length_map, List.length_take, Nat.min_eq_left (by omega)] at this
            exact this
          walk_at "ev"
          refine Evl.q_cut (M := fun σ' H3 => σ' = [some (.ref p), some (.ref bt), some (.ref lv), some (.ref pa), some (.int f), some (.int (f + m : Nat)), some (.bl L), some (.bl R), some (.int lw), some (.int hg), some (.ref pt), some (.int rate), some (.ref ip), some (.int (rn.f : Nat)), some (.int (rn.t : Nat)), some (.bl wn), some (.bl (if rn.f = 0 then L else !wn)), v17, v18] ∧ H3 = H'') ?_ ?_
          · walk_at "ev"
            by_cases c2 : rn.f = 0
            · rw [if_pos c2, decide_eq_true (show V.int (rn.f : Nat) = V.int 0 by rw [c2]; rfl)]
              refine iteT ?_
              walk_at "ev"
              exact ⟨rfl, rfl⟩
            · rw [if_neg c2, decide_eq_false (show ¬ V.int (rn.f : Nat) = V.int 0 from fun e => c2 (by injection e with e; omega))]
              refine iteF ?_
              walk_at "ev"
              exact ⟨rfl, rfl⟩
          rintro σ H3 ⟨rfl, rfl⟩
          refine Evl.q_cut (M := fun σ' H4 => σ' = [some (.ref p), some (.ref bt), some (.ref lv), some (.ref pa), some (.int f), some (.int (f + m : Nat)), some (.bl L), some (.bl R), some (.int lw), some (.int hg), some (.ref pt), some (.int rate), some (.ref ip), some (.int (rn.f : Nat)), some (.int (rn.t : Nat)), some (.bl wn), some (.bl (if rn.f = 0 then L else !wn)), some (.bl (if f + rn.t = f + m then R else !wn)), v18] ∧ H4 = H3) ?_ ?_
          · walk_at "ev"
            have e3 : (List.map V.bl (inB d f m L R rate)).length = m := by rw [List.length_map, il]
            rw [e3]
            by_cases c2 : f + rn.t = f + m
            · rw [if_pos c2, decide_eq_true (show V.int (rn.t : Nat) = V.int (m : Nat) by rw [show rn.t = m by omega])]
              refine iteT ?_
              walk_at "ev"
              exact ⟨rfl, rfl⟩
            · rw [if_neg c2, decide_eq_false (show ¬ V.int (rn.t : Nat) = V.int (m : Nat) from fun e => c2 (by injection e with e; omega))]
              refine iteF ?_
              walk_at "ev"
              exact ⟨rfl, rfl⟩
          rintro σ H4 ⟨rfl, rfl⟩
          refine Evl.q_cut (M := fun σ' H5 => ∃ tt, σ' = [some (.ref p), some (.ref bt), some (.ref lv), some (.ref pa), some (.int f), some (.int (f + m : Nat)), some (.bl L), some (.bl R), some (.int lw), some (.int hg), some (.ref pt), some (.int rate), some (.ref ip), some (.int (rn.f : Nat)), some (.int (rn.t : Nat)), some (.bl wn), some (.bl (if rn.f = 0 then L else !wn)), some (.bl (if f + rn.t = f + m then R else !wn)), some (.ref tt)] ∧ H4 tt = none ∧ H5 = upd H4 tt (.tup [.int (if wn = true then rate else lw), .int (if wn = true then hg else rate - 1)])) ?_ ?_
          · walk_at "ev"
            cases wn with
            | true =>
              walk_at "ev"
              intro tt ktt
              exact ⟨tt, rfl, ktt, rfl⟩
            | false =>
              walk_at "ev"
              intro tt ktt
              exact ⟨tt, rfl, ktt, rfl⟩
          rintro σ H6 ⟨tt, rfl, ktt, rfl⟩
          have z6 := z.alloc (.tup [.int (if wn = true then rate else lw), .int (if wn = true then hg else rate - 1)]) ktt
          have tl6 := tl.more (o := .tup [.int (if wn = true then rate else lw), .int (if wn = true then hg else rate - 1)]) ktt
          have tls6 := tls.more (o := .tup [.int (if wn = true then rate else lw), .int (if wn = true then hg else rate - 1)]) ktt
          walk_at "ev"
          intro tn ktn
          have en : newPart ⟨f, f + m, L, R, lw, hg⟩ rate rn = ⟨f + rn.f, f + rn.t, if rn.f = 0 then L else !wn, if f + rn.t = f + m then R else !wn, if wn = true then rate else lw, if wn = true then hg else rate - 1⟩ := by
            unfold newPart
            rw [hw]
          have et : partT (newPart ⟨f, f + m, L, R, lw, hg⟩ rate rn) = [.int ((f : Int) + (rn.f : Nat)), .int ((f : Int) + (rn.t : Nat)), .bl (if rn.f = 0 then L else !wn), .bl (if f + rn.t = f + m then R else !wn), .int (if wn = true then rate else lw), .int (if wn = true then hg else rate - 1)] := by
            rw [en]
            unfold partT
            dsimp only
            rw [Int.natCast_add, Int.natCast_add]
          rw [show (V.int (↑f + ↑rn.f) :: V.int (↑f + ↑rn.t) :: V.bl (if rn.f = 0 then L else !wn) :: V.bl (if f + rn.t = f + m then R else !wn) :: ([V.int (if wn = true then rate else lw), V.int (if wn = true then hg else rate - 1)] ++ [])) = partT (newPart ⟨f, f + m, L, R, lw, hg⟩ rate rn) from et.symm]
          have z7 := z6.alloc (.tup (partT (newPart ⟨f, f + m, L, R, lw, hg⟩ rate rn))) ktn
          have tl7 := ((tl6.more (o := .tup (partT (newPart ⟨f, f + m, L, R, lw, hg⟩ rate rn))) ktn).add (v := partT (newPart ⟨f, f + m, L, R, lw, hg⟩ rate rn)) (z7.get (.head _))).put (o := .lst (ws.map V.ref ++ [.ref tn])) (z7.get (.tail _ (.tail _ (.tail _ (.tail _ (.tail _ (.head _)))))))
          have tls7 := (tls6.more (o := .tup (partT (newPart ⟨f, f + m, L, R, lw, hg⟩ rate rn))) ktn).put (o := .lst (ws.map V.ref ++ [.ref tn])) (z7.get (.tail _ (.tail _ (.tail _ (.tail _ (.tail _ (.head _)))))))
          walk_at "ev"
          have z8 := z7.set 5 (.lst (ws.map V.ref ++ [.ref tn])) rfl (.inr rfl)
          refine ⟨_, _, _, _, _, _, ws ++ [tn], rfl, ?_, ?_, tls7⟩
          · rw [List.map_append]
            exact z8.sub (.cons _ (.cons _ (List.Sublist.refl _))) (by simp)
          · have eT : (PS' ++ (rs.take (j + 1)).map (newPart ⟨f, f + m, L, R, lw, hg⟩ rate)).map partT = (PS' ++ (rs.take j).map (newPart ⟨f, f + m, L, R, lw, hg⟩ rate)).map partT ++ [partT (newPart ⟨f, f + m, L, R, lw, hg⟩ rate rn)] := by
              rw [List.take_add_one, hrn]
              simp [List.map_append]
            rw [eT]
            exact tl7
        · obtain ⟨v13, v14, v15, v16, v17, v18, ws, rfl, z, tl, tls⟩ := pv
          rw [List.length_map, tsl, List.take_length] at tl
          walk_at "ev"
          refine ⟨_, ?_, PS' ++ rs.map (newPart ⟨f, f + m, L, R, lw, hg⟩ rate), ws, ls, _, _, _, _, _, _, _, _, _, _, _, _, _, _, _, rfl, z.sub (.cons _ (.cons _ (.cons _ (List.Sublist.refl _)))) (by simp), tl, inv', rfl, ?_⟩
          · rw [PM_app, PM_app]
            show PM PS' + _ < PM PS' + (pm _ + 0)
            omega
          · rw [LSum_app] at hls ⊢
            rw [LSum_new, rsm]
            have h2 : LSum [⟨f, f + m, L, R, lw, hg⟩] = f + m - f + 0 := rfl
            omega
end
set_option Elab.async false
set_option linter.all false
set_option maxRecDepth 100000
set_option maxHeartbeats 4000000
set_option exponentiation.threshold 2000
def lowTo (d : PD) (ls : List Int) (k : Nat) : List Int := (List.range d.L.length).map fun i => if i < k then nlo d.lo d.hi (nth ls) d.L.length (i + 1) else nth d.L i
def highTo (d : PD) (ls : List Int) (k : Nat) : List Int := (List.range d.L.length).map fun i => if i < k then nhi d.lo d.hi (nth ls) d.L.length (i + 1) else nth d.U i
def narrowPD (d : PD) (ls : List Int) : PD := ⟨lowTo d ls (d.L.length - 1), highTo d ls (d.L.length - 1), (List.range d.L.length).map fun i => nle d.a d.b (nth ls) i, (List.range d.L.length).map fun i => nmo d.a d.b (nth ls) i⟩
section
variable {d : PD} {ls : List Int}
theorem lowTo_len {k : Nat} : (lowTo d ls k).length = d.L.length := by simp [lowTo]
theorem highTo_len {k : Nat} : (highTo d ls k).length = d.L.length := by simp [highTo]
theorem nth_lowTo {k i : Nat} (h : i < d.L.length) : nth (lowTo d ls k) i = if i < k then nlo d.lo d.hi (nth ls) d.L.length (i + 1) else nth d.L i := nth_range h
theorem nth_highTo {k i : Nat} (h : i < d.L.length) : nth (highTo d ls k) i = if i < k then nhi d.lo d.hi (nth ls) d.L.length (i + 1) else nth d.U i := nth_range h
theorem lowTo_zero : lowTo d ls 0 = d.L := nth_ext lowTo_len fun i hi => by
  rw [lowTo_len] at hi
  rw [nth_lowTo hi, if_neg (by omega)]
theorem highTo_zero (lU : d.U.length = d.L.length) : highTo d ls 0 = d.U := nth_ext (highTo_len.trans lU.symm) fun i hi => by
  rw [highTo_len] at hi
  rw [nth_highTo hi, if_neg (by omega)]
theorem lowTo_set {k : Nat} (h : k < d.L.length) {x : Int} (hx : x = nlo d.lo d.hi (nth ls) d.L.length (k + 1)) : (lowTo d ls k).set k x = lowTo d ls (k + 1) := by
  refine nth_ext (by rw [List.length_set, lowTo_len, lowTo_len]) fun i hi => ?_
  rw [List.length_set, lowTo_len] at hi
  rw [nth_lowTo hi]
  by_cases e : i = k
  · subst e
    rw [nth_set_at (by rw [lowTo_len]; exact hi), if_pos (by omega), hx]
  · rw [nth_set_ne e, nth_lowTo hi]
    by_cases c : i < k
    · rw [if_pos c, if_pos (by omega)]
    · rw [if_neg c, if_neg (by omega)]
theorem highTo_set {k : Nat} (h : k < d.L.length) {x : Int} (hx : x = nhi d.lo d.hi (nth ls) d.L.length (k + 1)) : (highTo d ls k).set k x = highTo d ls (k + 1) := by
  refine nth_ext (by rw [List.length_set, highTo_len, highTo_len]) fun i hi => ?_
  rw [List.length_set, highTo_len] at hi
  rw [nth_highTo hi]
  by_cases e : i = k
  · subst e
    rw [nth_set_at (by rw [highTo_len]; exact hi), if_pos (by omega), hx]
  · rw [nth_set_ne e, nth_highTo hi]
    by_cases c : i < k
    · rw [if_pos c, if_pos (by omega)]
    · rw [if_neg c, if_neg (by omega)]
theorem lowTo_same {k : Nat} (h : k < d.L.length) (hx : nth d.L k = nlo d.lo d.hi (nth ls) d.L.length (k + 1)) : lowTo d ls (k + 1) = lowTo d ls k := by
  refine nth_ext (by rw [lowTo_len, lowTo_len]) fun i hi => ?_
  rw [lowTo_len] at hi
  rw [nth_lowTo hi, nth_lowTo hi]
  by_cases e : i = k
  · subst e
    rw [if_pos (by omega), if_neg (by omega), hx]
  · by_cases c : i < k
    · rw [if_pos c, if_pos (by omega)]
    · rw [if_neg c, if_neg (by omega)]
theorem highTo_same {k : Nat} (h : k < d.L.length) (hx : nth d.U k = nhi d.lo d.hi (nth ls) d.L.length (k + 1)) : highTo d ls (k + 1) = highTo d ls k := by
  refine nth_ext (by rw [highTo_len, highTo_len]) fun i hi => ?_
  rw [highTo_len] at hi
  rw [nth_highTo hi, nth_highTo hi]
  by_cases e : i = k
  · subst e
    rw [if_pos (by omega), if_neg (by omega), hx]
  · by_cases c : i < k
    · rw [if_pos c, if_pos (by omega)]
    · rw [if_neg c, if_neg (by omega)]
theorem narrow_lo {t : Nat} (h : t ≤ d.L.length) : (narrowPD d ls).lo t = nlo d.lo d.hi (nth ls) d.L.length t := by
  cases t with
  | zero =>
    unfold nlo
    rw [if_neg (by omega)]
    rfl
  | succ t =>
    show nth (lowTo d ls (d.L.length - 1)) t = _
    rw [nth_lowTo (by omega)]
    by_cases e : t < d.L.length - 1
    · rw [if_pos e]
    · rw [if_neg e]
      unfold nlo
      rw [if_neg (by omega)]
      rfl
theorem narrow_hi {t : Nat} (h : t ≤ d.L.length) : (narrowPD d ls).hi t = nhi d.lo d.hi (nth ls) d.L.length t := by
  cases t with
  | zero =>
    unfold nhi
    rw [if_neg (by omega)]
    rfl
  | succ t =>
    show nth (highTo d ls (d.L.length - 1)) t = _
    rw [nth_highTo (by omega)]
    by_cases e : t < d.L.length - 1
    · rw [if_pos e]
    · rw [if_neg e]
      unfold nhi
      rw [if_neg (by omega)]
      rfl
theorem narrow_a {t : Nat} (h : t < d.L.length) : (narrowPD d ls).a t = nle d.a d.b (nth ls) t := nth_range h
theorem narrow_b {t : Nat} (h : t < d.L.length) : (narrowPD d ls).b t = nmo d.a d.b (nth ls) t := nth_range h
theorem narrow_L : (narrowPD d ls).L.length = d.L.length := lowTo_len
theorem PD.Ok.lh (ok : d.Ok) : ∀ t, t ≤ d.L.length → d.lo t ≤ d.hi t
  | 0, _ => Int.le_refl _
  | t + 1, h => ok.lu t (by omega)
theorem narrow_ok (ok : d.Ok) : (narrowPD d ls).Ok := by
  have one := ok.one
  refine ⟨by rw [narrow_L]; exact ok.one, by rw [narrow_L]; exact ok.most, highTo_len.trans narrow_L.symm, by rw [narrow_L]; simp [narrowPD], by rw [narrow_L]; simp [narrowPD], fun i hi => ?_, fun i hi => ?_, ?_⟩
  · rw [narrow_L] at hi
    have h1 := narrow_lo (d := d) (ls := ls) (t := i + 1) (by omega)
    have h2 := narrow_hi (d := d) (ls := ls) (t := i + 1) (by omega)
    rw [PD.loS] at h1
    rw [PD.hiS] at h2
    rw [h1, h2]
    have := ok.lh (i + 1) (by omega)
    unfold nlo nhi
    split <;> split <;> omega
  · rw [narrow_L] at hi
    have h1 := narrow_a (d := d) (ls := ls) hi
    have h2 := narrow_b (d := d) (ls := ls) hi
    show (narrowPD d ls).a i ≤ (narrowPD d ls).b i
    rw [h1, h2]
    unfold nle nmo clampF
    omega
  · rw [narrow_L]
    have h1 := narrow_lo (d := d) (ls := ls) (t := d.L.length) (Nat.le_refl _)
    have h2 := narrow_hi (d := d) (ls := ls) (t := d.L.length) (Nat.le_refl _)
    have e : d.L.length = d.L.length - 1 + 1 := by omega
    rw [e, PD.loS] at h1
    rw [e, PD.hiS] at h2
    rw [h1, h2]
    have := ok.totF
    unfold nlo nhi
    rw [if_neg (by omega), if_neg (by omega), ← e]
    exact this
/-- the levels of a plan -/
def LevD (d : PD) (ls : List Int) : Prop := ∃ c0, (∀ i, i < d.L.length → c0 < d.a i) ∧ LInv d.L.length d.lo d.hi d.a d.b c0 [] ls
theorem narrow_row_iff {X : Nat → Int} : (narrowPD d ls).RowX X ↔ RowS d.L.length (nlo d.lo d.hi (nth ls) d.L.length) (nhi d.lo d.hi (nth ls) d.L.length) (nle d.a d.b (nth ls)) (nmo d.a d.b (nth ls)) X := by
  unfold PD.RowX
  rw [narrow_L]
  constructor
  · intro r
    exact ⟨r.zero, fun t h => by rw [← narrow_lo h]; exact r.low t h, fun t h => by rw [← narrow_hi h]; exact r.high t h, fun t h => by rw [← narrow_a h]; exact r.least t h, fun t h => by rw [← narrow_b h]; exact r.most t h⟩
  · intro r
    exact ⟨r.zero, fun t h => by rw [narrow_lo h]; exact r.low t h, fun t h => by rw [narrow_hi h]; exact r.high t h, fun t h => by rw [narrow_a h]; exact r.least t h, fun t h => by rw [narrow_b h]; exact r.most t h⟩
theorem narrow_best (ok : d.Ok) (lv : LevD d ls) {X : Nat → Int} : (narrowPD d ls).RowX X ↔ d.BestX X := by
  rw [narrow_row_iff]
  obtain ⟨c0, h0, inv⟩ := lv
  exact ⟨fun r => best_of_narrow r ok.lh fun i h => ok.ab i h, fun r => narrow_of_best (inv.done r) r ok.totF h0⟩
theorem narrow_has (ok : d.Ok) (has : d.Has) (lv : LevD d ls) : (narrowPD d ls).Has := by
  obtain ⟨X, r⟩ := has.best
  exact ⟨X, (narrow_best ok lv).mpr r⟩
/-- the best row with the greatest sums, and that with the least -/
structure TopBest (d : PD) (ns : List Int) : Prop where
  len : ns.length = d.L.length
  best : d.BestX (sumX ns)
  top : ∀ Y, d.BestX Y → ∀ t, t ≤ d.L.length → Y t ≤ sumX ns t
structure BotBest (d : PD) (ns : List Int) : Prop where
  len : ns.length = d.L.length
  best : d.BestX (sumX ns)
  bot : ∀ Y, d.BestX Y → ∀ t, t ≤ d.L.length → sumX ns t ≤ Y t
theorem best_congr {X Y : Nat → Int} (e : ∀ t, t ≤ d.L.length → X t = Y t) (r : d.BestX X) : d.BestX Y := by
  refine ⟨row_congr e r.row, fun p q hp hq s1 s2 g => ?_⟩
  have ee : ∀ i, i < d.L.length → ent Y i = ent X i := fun i hi => by
    unfold ent
    rw [e i (by omega), e (i + 1) (by omega)]
  rw [ee p hp] at s1 ⊢
  rw [ee q hq] at s2 ⊢
  exact r.even p q hp hq s1 s2 ⟨fun t h1 h2 => by rw [e t (by omega)]; exact g.1 t h1 h2, fun t h1 h2 => by rw [e t (by omega)]; exact g.2 t h1 h2⟩
theorem full_top (ok : d.Ok) (has : d.Has) (lv : LevD d ls) : TopBest d (fullL (narrowPD d ls)) := by
  have nok := narrow_ok (ls := ls) ok
  have nh := narrow_has ok has lv
  have nr := nh.topR nok
  have es : ∀ t, t ≤ d.L.length → sumX (fullL (narrowPD d ls)) t = topF (narrowPD d ls).hi (narrowPD d ls).a (narrowPD d ls).b (narrowPD d ls).L.length t := fun t h => full_sumX nok nh (by rw [narrow_L]; exact h)
  refine ⟨fullL_len.trans narrow_L, best_congr (fun t h => (es t h).symm) ((narrow_best ok lv).mp nr), fun Y r t h => ?_⟩
  rw [es t h]
  exact ((narrow_best ok lv).mpr r).top (by rw [narrow_L]; exact h)
theorem bare_sumX {d : PD} (ok : d.Ok) (h : d.Has) {t : Nat} (ht : t ≤ d.L.length) : sumX (bareL d) t = botF d.lo d.a d.b d.L.length t := by
  rw [bareL_is]
  exact rowOf_take (h.botR ok).zero ht
theorem bare_bot (ok : d.Ok) (has : d.Has) (lv : LevD d ls) : BotBest d (bareL (narrowPD d ls)) := by
  have nok := narrow_ok (ls := ls) ok
  have nh := narrow_has ok has lv
  have nr := nh.botR nok
  have es : ∀ t, t ≤ d.L.length → sumX (bareL (narrowPD d ls)) t = botF (narrowPD d ls).lo (narrowPD d ls).a (narrowPD d ls).b (narrowPD d ls).L.length t := fun t h => bare_sumX nok nh (by rw [narrow_L]; exact h)
  refine ⟨bareL_len.trans narrow_L, best_congr (fun t h => (es t h).symm) ((narrow_best ok lv).mp nr), fun Y r t h => ?_⟩
  rw [es t h]
  exact ((narrow_best ok lv).mpr r).bot (by rw [narrow_L]; exact h)
end
section
variable {P : Program} {w : World} {K : PySem.W.Frag} {mg : Str → Option Value} {base : Heap}
def sp_plan_of_best (K : PySem.W.Frag) : Sp := fun vs H Q _ => ∃ (p : Addr) (d : PD), vs = [.ref p] ∧ PlanAt K [] H p d ∧ d.Ok ∧ d.Has ∧ d.Bd ∧ ∀ q H' (ls : List Int), LevD d ls → Fr [] H H' → NewP K H H' q (narrowPD d ls) → Q (.ref q) H'
theorem k_plan_of_best (T : Tx fa fn K mg base) : Fk P w K mg base "plan_of_best" ["plan"] 7 (sp_plan_of_best K) s_plan_of_best "plan_of_best" := by
  refine T.fk 30 46 (q := "plan_of_best") (st := s_plan_of_best) sc_plan_of_best (fun _ _ _ _ _ _ us hl => match us, hl with | [_], _ => rfl) (fun vs H Q E h => ?_) (fun cdv A outer s H vs Q E hr h => ?_)
  · obtain ⟨p, d, rfl, _⟩ := h
    rfl
  · obtain ⟨p, d, rfl, pd, ok, has, big, k⟩ := h
    have one := ok.one
    have most := ok.most
    have lU := ok.lU
    have lA := ok.lA
    have lB := ok.lB
    refine ⟨_, (pss_cons (ps_set (i := 1) sc_plan_of_best.nd rfl (by first | exact Or.inl rfl | exact Or.inr rfl) (pe_f (k_levels_of T) hr (pa_cons (pv 0) pa_nil)))
      (pss_cons (ps_par (i := 2) (j := 3) (by rfl) sc_plan_of_best.nd rfl rfl (by decide) rfl rfl (pa_cons (pe_pr (pv 0) (k_Plan_low T) hr) (pa_cons (pe_pr (pv 0) (k_Plan_high T) hr) pa_nil)) (by rfl))
      (pss_cons (ps_for PassesOwn.never rfl (pi_range1 (by rfl) (T.fr 13) (pa_cons (pe_op op_sub (pe_callB (cr_lenP (k_Plan___len__ T) (hr.mono (by decide))) (by rfl) (T.fr 6) (by decide +kernel) (pa_cons (pv 0) pa_nil)) pe_int) pa_nil)) (pg_name (i := 4) sc_plan_of_best.nd rfl (by first | exact Or.inl rfl | exact Or.inr rfl)) (pss_one (ps_if (pt_cmpR op_lt (pe_ix ix_list (pv 1) (pv 4) (fun _ _ => rfl)) (pe_ix ix_list (pv 1) (pe_op op_add (pv 4) pe_int) (fun _ _ => rfl)) (nomark _)) (pss_one (ps_asg (pe_ix ix_list (pv 3) (pv 4) (fun _ _ => rfl)) (pg_sub (pv 2) (pv 4) set_list))) (pss_one (ps_if (pt_cmpR op_gt (pe_ix ix_list (pv 1) (pv 4) (fun _ _ => rfl)) (pe_ix ix_list (pv 1) (pe_op op_add (pv 4) pe_int) (fun _ _ => rfl)) (nomark _)) (pss_one (ps_asg (pe_ix ix_list (pv 2) (pv 4) (fun _ _ => rfl)) (pg_sub (pv 3) (pv 4) set_list))) pss_nil)))))
      (pss_cons (ps_set (i := 5) sc_plan_of_best.nd rfl (by first | exact Or.inl rfl | exact Or.inr rfl) (pe_listZip3 (by rfl) (T.fr 8) (by rfl) (T.fr 10) (pa_cons (pe_pr (pv 0) (k_Plan_least T) hr) (pa_cons (pe_pr (pv 0) (k_Plan_most T) hr) (pa_cons (pv 1) pa_nil)))))
      (pss_cons (ps_setLc (i := 6) (own := [("least", 8), ("most", 9), ("level", 10)]) (tt := tYes) (g := (gTup K 3 (gCons (gName 8) (gCons (gName 9) (gCons (gName 10) gNil))))) (te := (tCall (sp_entry_at K) [] E0 (tCons (tVar 8) (tCons (tVar 9) (tCons (tVar 10) tNil))))) rfl sc_plan_of_best.nd rfl rfl (sw_true rfl rfl rfl (by decide +kernel)) (pi_list (pv 5)) (blkOk_by (N := ["plan", "levels", "low", "high", "at", "bounds", "lesser", "greater", "least", "most", "level"]) (sc := defScope s_plan_of_best) (by decide +kernel)) (fun _ _ _ _ _ => (pg_tup rfl (pgs_cons (pg_name (i := 8) sc_plan_of_best.nd rfl (by first | exact Or.inl rfl | exact Or.inr rfl)) (pgs_cons (pg_name (i := 9) sc_plan_of_best.nd rfl (by first | exact Or.inl rfl | exact Or.inr rfl)) (pgs_cons (pg_name (i := 10) sc_plan_of_best.nd rfl (by first | exact Or.inl rfl | exact Or.inr rfl)) pgs_nil))))) (fun _ _ _ _ _ => pts_nil) (fun _ _ _ _ _ => (pe_f (k_entry_at T) hr (pa_cons (pv 8) (pa_cons (pv 9) (pa_cons (pv 10) pa_nil))))))
      (pss_cons (ps_setLc (i := 7) (own := [("least", 8), ("most", 9), ("level", 10)]) (tt := tYes) (g := (gTup K 3 (gCons (gName 8) (gCons (gName 9) (gCons (gName 10) gNil))))) (te := (tCall (sp_entry_at K) [] E0 (tCons (tVar 8) (tCons (tVar 9) (tCons (tOp (rI0 fun i j => .int (i + j)) (tVar 10) (tC (.int 1))) tNil))))) rfl sc_plan_of_best.nd rfl rfl (sw_true rfl rfl rfl (by decide +kernel)) (pi_list (pv 5)) (blkOk_by (N := ["plan", "levels", "low", "high", "at", "bounds", "lesser", "greater", "least", "most", "level"]) (sc := defScope s_plan_of_best) (by decide +kernel)) (fun _ _ _ _ _ => (pg_tup rfl (pgs_cons (pg_name (i := 8) sc_plan_of_best.nd rfl (by first | exact Or.inl rfl | exact Or.inr rfl)) (pgs_cons (pg_name (i := 9) sc_plan_of_best.nd rfl (by first | exact Or.inl rfl | exact Or.inr rfl)) (pgs_cons (pg_name (i := 10) sc_plan_of_best.nd rfl (by first | exact Or.inl rfl | exact Or.inr rfl)) pgs_nil))))) (fun _ _ _ _ _ => pts_nil) (fun _ _ _ _ _ => (pe_f (k_entry_at T) hr (pa_cons (pv 8) (pa_cons (pv 9) (pa_cons (pe_op op_add (pv 10) pe_int) pa_nil))))))
      (pss_one (ps_ret (pe_mk (k_Plan___init__ T) (T.glo 27) hr (pa_cons (pv 2) (pa_cons (pv 3) (pa_cons (pv 6) (pa_cons (pv 7) pa_nil))))))))))))), ?_⟩
    walk_at "ev0"
    refine ⟨p, d, rfl, pd, ok, has, big, fun lv H1 ls c0 hlv f1 g1 h0 inv => ?_⟩
    have ll := inv.len
    have z1 := (Z.start0 H).comp f1 hlv g1
    clear hlv f1 g1
    walk_at "ev"
    refine r_pl (pd.mono (z1.fr0 (by simp))) fun s2 k2 => ?_
    have z2 := z1.alloc (.lst (d.L.map V.int)) k2
    walk_at "ev"
    refine r_pl (pd.mono (z2.fr0 (by simp))) fun s3 k3 => ?_
    have z3 := z2.alloc (.lst (d.U.map V.int)) k3
    walk_at "ev"
    refine r_lenD (pd.mono (z3.fr0 (by simp))) (by omega) ?_
    walk_at "ev"
    refine ⟨by omega, by omega, ?_⟩
    rw [show ((d.L.length : Int) - 1).toNat = d.L.length - 1 by omega]
    refine for_it (walk_range (lo := 0)) (fun i σ H' => ∃ u : Option V, σ = [some (.ref p), some (.ref lv), some (.ref s2), some (.ref s3), u, none, none, none, none, none, none] ∧
      Z H H' [(2, s3, .lst ((highTo d ls i).map V.int)), (2, s2, .lst ((lowTo d ls i).map V.int)), (2, lv, .lst (ls.map V.int))]) ⟨none, rfl, by rw [lowTo_zero, highTo_zero lU]; exact z3⟩ (fun _ _ _ _ _ => trivial) (fun i x σ H' H'' hi pv y => ?_) (fun σ H' pv => ?_)
    · obtain ⟨u, rfl, z⟩ := pv
      obtain ⟨rfl, rfl⟩ := y
      have e1 : (0 : Int) + (i : Int) = (i : Int) := by omega
      have e2 : (i : Int) + 1 = ((i + 1 : Nat) : Int) := by omega
      simp only [e1]
      have hl : (lowTo d ls i).length = d.L.length := lowTo_len
      have hh : (highTo d ls i).length = d.L.length := highTo_len
      have nl : nth (lowTo d ls i) i = nth d.L i := by rw [nth_lowTo (by omega), if_neg (by omega)]
      have nh : nth (highTo d ls i) i = nth d.U i := by rw [nth_highTo (by omega), if_neg (by omega)]
      walk_at "ev"
      refine r_at (atN (by omega)) ?_
      walk_at "ev"
      rw [e2]
      refine r_at (atN (by omega)) ?_
      walk_at "ev"
      refine r_ite (fun c => ?_) (fun c => ?_)
      · have q1 : nth d.U i = nlo d.lo d.hi (nth ls) d.L.length (i + 1) := by
          unfold nlo
          rw [if_pos ⟨by omega, by omega, c⟩]
          rfl
        have q2 : nth d.U i = nhi d.lo d.hi (nth ls) d.L.length (i + 1) := by
          unfold nhi
          rw [if_neg (by rw [Nat.add_sub_cancel]; omega)]
          rfl
        walk_at "ev"
        refine r_at (atN (by omega)) ?_
        rw [nh]
        walk_at "ev"
        refine r_ixn (ixN_at (by rw [List.length_map, hl]; omega)) ?_
        rw [← List.map_set, lowTo_set (by omega) q1]
        have w1 := z.set 1 (.lst ((lowTo d ls (i + 1)).map V.int)) rfl (.inr rfl)
        walk_at "ev"
        exact ⟨_, rfl, by rw [highTo_same (by omega) q2]; exact w1⟩
      · have q1 : nth d.L i = nlo d.lo d.hi (nth ls) d.L.length (i + 1) := by
          unfold nlo
          rw [if_neg (by rw [Nat.add_sub_cancel]; omega)]
          rfl
        walk_at "ev"
        refine r_at (atN (by omega)) ?_
        walk_at "ev"
        rw [e2]
        refine r_at (atN (by omega)) ?_
        walk_at "ev"
        refine r_ite (fun c2 => ?_) (fun c2 => ?_)
        · have q2 : nth d.L i = nhi d.lo d.hi (nth ls) d.L.length (i + 1) := by
            unfold nhi
            rw [if_pos ⟨by omega, by omega, c2⟩]
            rfl
          walk_at "ev"
          refine r_at (atN (by omega)) ?_
          rw [nl]
          walk_at "ev"
          refine r_ixn (ixN_at (by rw [List.length_map, hh]; omega)) ?_
          rw [← List.map_set, highTo_set (by omega) q2]
          have w1 := z.set 0 (.lst ((highTo d ls (i + 1)).map V.int)) rfl (.inr rfl)
          walk_at "ev"
          exact ⟨_, rfl, by rw [lowTo_same (by omega) q1]; exact w1⟩
        · have q2 : nth d.U i = nhi d.lo d.hi (nth ls) d.L.length (i + 1) := by
            unfold nhi
            rw [if_neg (by rw [Nat.add_sub_cancel]; omega)]
            rfl
          walk_at "ev"
          exact ⟨_, rfl, by rw [highTo_same (by omega) q2, lowTo_same (by omega) q1]; exact z⟩
    obtain ⟨u, rfl, z⟩ := pv
    clear z1 z2 z3 k2 k3
    walk_at "ev"
    refine r_pl (pd.mono (z.fr0 (by simp))) fun s4 k4 => ?_
    have z4 := z.alloc (.lst (d.A.map V.int)) k4
    walk_at "ev"
    refine r_pl (pd.mono (z4.fr0 (by simp))) fun s5 k5 => ?_
    have z5 := z4.alloc (.lst (d.B.map V.int)) k5
    walk_at "ev"
    refine r_zipL3 d.L.length (SqL.of (z5.get (.tail _ (.head _)))) (SqL.of (z5.get (.head _))) (SqL.of (z5.get (.tail _ (.tail _ (.tail _ (.tail _ (.head _))))))) (by rw [List.length_map, lA]) (by rw [List.length_map, lB]) (by rw [List.length_map, ll]) (by omega) fun H6 bq ts o => ?_
    have z6 := z5.comp o.fr o.new o.lst
    have tup : ∀ (i : Nat) x, (ts.map V.ref)[i]? = some x → ∃ t, x = .ref t ∧ H6 t = some (.tup [.int (nth d.A i), .int (nth d.B i), .int (nth ls i)]) := fun i x hx => by
      rw [List.getElem?_map] at hx
      cases e : ts[i]? with
      | none => rw [e] at hx; cases hx
      | some t =>
        rw [e] at hx
        refine ⟨t, (Option.some.inj hx).symm, ?_⟩
        have hl := (List.getElem?_eq_some_iff.mp e).1
        rw [o.len] at hl
        have := (o.tup i t e).2
        simp only [List.map_cons, List.map_nil] at this
        have g : ∀ {ns : List Int}, i < ns.length → (ns.map V.int).getD i V.non = .int (nth ns i) := fun h => by
          rw [List.getD_eq_getElem?_getD, at_nth h]
          rfl
        rw [g (by omega), g (by omega), g (by omega)] at this
        exact this
    have tl := o.len
    clear o
    walk_at "ev"
    refine lc_pure (walk_list (xs := ts.map V.ref)) (fun i => .int (nle d.a d.b (nth ls) i)) (by rw [List.length_map]; omega) (fun H' e => e.sql (SqL.of (z6.get (.head _))) nin) (fun i H' x H'' y => by rw [y.1]; exact Fr.refl _) (fun i x H' H'' R' hi e y kR => ?_) (fun D1 H7 hD1 e1 g1 => ?_)
    · obtain ⟨rfl, hx⟩ := y
      obtain ⟨t, rfl, ht⟩ := tup i x hx
      have ht' := e _ _ nin ht
      walk_at "ev"
      refine ⟨rfl, ?_⟩
      walk_at "ev"
      exact ⟨_, _, _, rfl, kR _ (Fr.refl _)⟩
    have z7 := z6.comp e1 hD1 g1
    have tup7 : ∀ (i : Nat) x, (ts.map V.ref)[i]? = some x → ∃ t, x = .ref t ∧ H7 t = some (.tup [.int (nth d.A i), .int (nth d.B i), .int (nth ls i)]) := fun i x hx => by
      obtain ⟨t, e, h⟩ := tup i x hx
      exact ⟨t, e, e1 _ _ nin h⟩
    clear hD1 e1 g1 tup
    walk_at "ev"
    refine lc_pure (walk_list (xs := ts.map V.ref)) (fun i => .int (nmo d.a d.b (nth ls) i)) (by rw [List.length_map]; omega) (fun H' e => e.sql (SqL.of (z7.get (.tail _ (.head _)))) nin) (fun i H' x H'' y => by rw [y.1]; exact Fr.refl _) (fun i x H' H'' R' hi e y kR => ?_) (fun D2 H8 hD2 e2 g2 => ?_)
    · obtain ⟨rfl, hx⟩ := y
      obtain ⟨t, rfl, ht⟩ := tup7 i x hx
      have ht' := e _ _ nin ht
      walk_at "ev"
      refine ⟨rfl, ?_⟩
      walk_at "ev"
      exact ⟨_, _, _, rfl, kR _ (Fr.refl _)⟩
    have z8 := z7.comp e2 hD2 g2
    clear hD2 e2 g2 tup7
    walk_at "ev"
    have f8 := z8.fr0 (by simp)
    rw [List.length_map, tl] at z8
    refine r_plan (d := narrowPD d ls) (narrow_ok ok) (z8.get (.tail _ (.tail _ (.tail _ (.tail _ (.tail _ (.tail _ (.head _)))))))) (z8.get (.tail _ (.tail _ (.tail _ (.tail _ (.tail _ (.head _))))))) ((z8.get (.tail _ (.head _))).trans (by unfold narrowPD; rw [List.map_map]; rfl)) ((z8.get (.head _)).trans (by unfold narrowPD; rw [List.map_map]; rfl)) fun q H9 f9 n9 => ?_
    exact k q H9 ls ⟨c0, h0.1, inv⟩ (f8.trans f9) (n9.fwd f8)
def sp_best_row (K : PySem.W.Frag) : Sp := fun vs H Q _ => ∃ (p : Addr) (d : PD), vs = [.ref p] ∧ PlanAt K [] H p d ∧ d.Ok ∧ d.Has ∧ d.Bd ∧ ∀ r H' ns, H r = none → Fr [] H H' → H' r = some (.lst (ns.map V.int)) → TopBest d ns → Q (.ref r) H'
theorem k_best_row (T : Tx fa fn K mg base) : Fk P w K mg base "best_row" ["plan"] 8 (sp_best_row K) s_best_row "best_row" := by
  refine T.fk 31 47 (q := "best_row") (st := s_best_row) sc_best_row (fun _ _ _ _ _ _ us hl => match us, hl with | [_], _ => rfl) (fun vs H Q E h => ?_) (fun cdv A outer s H vs Q E hr h => ?_)
  · obtain ⟨p, d, rfl, _⟩ := h
    rfl
  · obtain ⟨p, d, rfl, pd, ok, has, big, k⟩ := h
    refine ⟨_, (pss_one (ps_ret (pe_f (k_fullest T) hr (pa_cons (pe_f (k_plan_of_best T) hr (pa_cons (pv 0) pa_nil)) pa_nil)))), ?_⟩
    walk_at "ev"
    refine ⟨p, d, rfl, pd, ok, has, big, fun q H1 ls lv f1 n1 => ?_⟩
    walk_at "ev"
    refine ⟨q, narrowPD d ls, rfl, n1.at, narrow_ok ok, narrow_has ok has lv, fun r H2 hr2 f2 g2 => ?_⟩
    exact k r H2 _ (f1.none hr2) (f1.trans f2) g2 (full_top ok has lv)
def sp_latest_row (K : PySem.W.Frag) : Sp := fun vs H Q _ => ∃ (p : Addr) (d : PD), vs = [.ref p] ∧ PlanAt K [] H p d ∧ d.Ok ∧ d.Has ∧ d.Bd ∧ ∀ r H' ns, H r = none → Fr [] H H' → H' r = some (.lst (ns.map V.int)) → BotBest d ns → Q (.ref r) H'
theorem k_latest_row (T : Tx fa fn K mg base) : Fk P w K mg base "latest_row" ["plan"] 8 (sp_latest_row K) s_latest_row "latest_row" := by
  refine T.fk 32 48 (q := "latest_row") (st := s_latest_row) sc_latest_row (fun _ _ _ _ _ _ us hl => match us, hl with | [_], _ => rfl) (fun vs H Q E h => ?_) (fun cdv A outer s H vs Q E hr h => ?_)
  · obtain ⟨p, d, rfl, _⟩ := h
    rfl
  · obtain ⟨p, d, rfl, pd, ok, has, big, k⟩ := h
    refine ⟨_, (pss_one (ps_ret (pe_f (k_emptiest T) hr (pa_cons (pe_f (k_plan_of_best T) hr (pa_cons (pv 0) pa_nil)) pa_nil)))), ?_⟩
    walk_at "ev"
    refine ⟨p, d, rfl, pd, ok, has, big, fun q H1 ls lv f1 n1 => ?_⟩
    walk_at "ev"
    refine ⟨q, narrowPD d ls, rfl, n1.at, narrow_ok ok, narrow_has ok has lv, fun r H2 hr2 f2 g2 => ?_⟩
    exact k r H2 _ (f1.none hr2) (f1.trans f2) g2 (bare_bot ok has lv)
end
set_option Elab.async false
set_option linter.all false
set_option maxRecDepth 100000
set_option maxHeartbeats 4000000
set_option exponentiation.threshold 2000
section
variable {P : Program} {w : World} {K : PySem.W.Frag} {mg : Str → Option Value} {base : Heap}
def sp_best_entries (K : PySem.W.Frag) : Sp := fun vs H Q _ => ∃ (p : Addr) (d : PD), vs = [.ref p] ∧ PlanAt K [] H p d ∧ d.Ok ∧ d.Has ∧ d.Bd ∧ ∀ r H' (ns top : List Int), H r = none → Fr [] H H' → H' r = some (.lst (ns.map V.int)) → TopBest d top → ns.Perm top → ns.Pairwise (· ≤ ·) → Q (.ref r) H'
theorem k_best_entries (T : Tx fa fn K mg base) : Fk P w K mg base "best_entries" ["plan"] 9 (sp_best_entries K) s_best_entries "best_entries" := by
  refine T.fk 33 49 (q := "best_entries") (st := s_best_entries) sc_best_entries (fun _ _ _ _ _ _ us hl => match us, hl with | [_], _ => rfl) (fun vs H Q E h => ?_) (fun cdv A outer s H vs Q E hr h => ?_)
  · obtain ⟨p, d, rfl, _⟩ := h
    rfl
  · obtain ⟨p, d, rfl, pd, ok, has, big, k⟩ := h
    refine ⟨_, (pss_one (ps_ret (pe_callB cr_sortedI (by rfl) (T.fr 42) (by decide +kernel) (pa_cons (pe_f (k_best_row T) hr (pa_cons (pv 0) pa_nil)) pa_nil)))), ?_⟩
    walk_at "ev"
    refine ⟨p, d, rfl, pd, ok, has, big, fun r H1 ns h1 f1 g1 tb => ?_⟩
    walk_at "ev"
    refine ⟨r, ns, rfl, SqL.of g1, fun ns' q pm so hq => ?_⟩
    have z1 := (Z.start0 H1).alloc (.lst (ns'.map V.int)) hq
    exact k q _ ns' ns (f1.none hq) (f1.trans (z1.fr0 (by simp))) (z1.get (.head _)) tb pm so
end
set_option Elab.async false
set_option linter.all false
set_option maxRecDepth 100000
set_option maxHeartbeats 4000000
set_option exponentiation.threshold 2000
/-- a pair of times, told by the law, is an allowed swap -/
structure SwOK (d : PD) (ns : List Int) (gap : Int) (p : Int × Int) : Prop where
  ex : ∃ g t : Nat, p = ((g : Int) + 1, (t : Int) + 1) ∧ g < d.L.length ∧ t < d.L.length ∧ g ≠ t ∧ nth ns t + gap ≤ nth ns g ∧ d.a g < nth ns g ∧ nth ns t < d.b t ∧ Goes d.lo d.hi (sumX ns) g t
theorem hs_nth {ns : List Int} {i : Nat} (h : i < ns.length) : nth (heights ns) i = sumX ns (i + 1) := nth_hsTo h
/-- what is known of what was found -/
def SwS (H : Hp) (d : PD) (ns : List Int) (gap : Int) (sm fd : Addr) (mx : Nat) (H' : Hp) : Prop := ∃ (ws : List Addr) (FS : List (Int × Int)), Z H H' [(2, fd, .lst (ws.map V.ref)), (2, sm, .lst ((heights ns).map V.int))] ∧ TL H' ws (FS.map pairV) ∧ (∀ q ∈ FS, SwOK d ns gap q) ∧ FS.length ≤ mx
theorem SwS.le {H H' : Hp} {d : PD} {ns : List Int} {gap : Int} {sm fd : Addr} {m m' : Nat} (h : SwS H d ns gap sm fd m H') (l : m ≤ m') : SwS H d ns gap sm fd m' H' := by
  obtain ⟨ws, FS, z, t, o, le⟩ := h
  exact ⟨ws, FS, z, t, o, Nat.le_trans le l⟩
set_option Elab.async false
set_option linter.all false
set_option maxRecDepth 100000
set_option maxHeartbeats 4000000
set_option exponentiation.threshold 2000
def exS (l : List Int) (c : Int) : Int := (l.map fun x => max 0 (x - c)).sum
theorem exS_step (c : Int) : ∀ l : List Int, exS l c - exS l (c + 1) = (l.countP (fun x => decide (c < x)) : Nat)
  | [] => rfl
  | x :: l => by
    have ih := exS_step c l
    have e1 : exS (x :: l) c = max 0 (x - c) + exS l c := rfl
    have e2 : exS (x :: l) (c + 1) = max 0 (x - (c + 1)) + exS l (c + 1) := rfl
    rw [e1, e2, List.countP_cons]
    by_cases h : c < x
    · rw [if_pos (by simpa using h)]
      omega
    · rw [if_neg (by simpa using h)]
      omega
theorem count_step (v : Int) : ∀ l : List Int, ((l.count v : Nat) : Int) = (l.countP (fun x => decide (v - 1 < x)) : Nat) - (l.countP (fun x => decide (v < x)) : Nat)
  | [] => rfl
  | x :: l => by
    have ih := count_step v l
    rw [List.count_cons, List.countP_cons, List.countP_cons]
    rcases Int.lt_trichotomy x v with h | h | h
    · rw [if_neg (by simp; omega), if_neg (by simp; omega), if_neg (by simp; omega)]
      omega
    · rw [if_pos (by simp; omega), if_pos (by simp; omega), if_neg (by simp; omega)]
      omega
    · rw [if_neg (by simp; omega), if_pos (by simp; omega), if_pos (by simp; omega)]
      omega
theorem perm_of_exS {l m : List Int} (h : ∀ c, exS l c = exS m c) : l.Perm m := by
  rw [List.perm_iff_count]
  intro v
  have h1 := count_step v l
  have h2 := count_step v m
  have h3 := exS_step (v - 1) l
  have h4 := exS_step (v - 1) m
  have h5 := exS_step v l
  have h6 := exS_step v m
  rw [h (v - 1), h (v - 1 + 1)] at h3
  rw [h v, h (v + 1)] at h5
  omega
theorem nth_mapI {g : Int → Int} {ns : List Int} {i : Nat} (h : i < ns.length) : nth (ns.map g) i = g (nth ns i) := nth_map h
theorem map_sum {g : Int → Int} {ns : List Int} : (ns.map g).sum = sumF (fun i => g (nth ns i)) ns.length := by
  have e := sumF_take (ns := ns.map g) (k := ns.length) (by rw [List.length_map]; exact Nat.le_refl _)
  rw [List.take_of_length_le (by rw [List.length_map]; exact Nat.le_refl _)] at e
  rw [← e]
  exact sumF_congr fun i hi => nth_mapI hi
theorem ent_sumX {ns : List Int} {i : Nat} (h : i < ns.length) : ent (sumX ns) i = nth ns i := by
  unfold ent
  rw [sumX_succ h]
  omega
section
variable {d : PD}
theorem best_perm (ok : d.Ok) {ns ms : List Int} (l1 : ns.length = d.L.length) (l2 : ms.length = d.L.length) (b1 : d.BestX (sumX ns)) (b2 : d.BestX (sumX ms)) : ns.Perm ms := by
  refine perm_of_exS fun c => ?_
  have h1 := b1.above b2.row ok.totF d.hi0 c
  have h2 := b2.above b1.row ok.totF d.hi0 c
  have e1 : sumF (fun i => max 0 (ent (sumX ns) i - c)) d.L.length = exS ns c := by
    unfold exS
    rw [map_sum, l1]
    exact sumF_congr fun i hi => by rw [ent_sumX (by omega)]
  have e2 : sumF (fun i => max 0 (ent (sumX ms) i - c)) d.L.length = exS ms c := by
    unfold exS
    rw [map_sum, l2]
    exact sumF_congr fun i hi => by rw [ent_sumX (by omega)]
  omega
theorem sq_sum {ns : List Int} {n : Nat} (l : ns.length = n) : sqX (sumX ns) n = (ns.map fun x => x * x).sum := by
  unfold sqX
  rw [map_sum, l]
  exact sumF_congr fun i hi => by rw [ent_sumX (by omega)]
theorem perm_sum {l m : List Int} (h : l.Perm m) : l.sum = m.sum := by
  induction h with
  | nil => rfl
  | cons x _ ih => exact congrArg (x + ·) ih
  | swap x y l =>
    show y + (x + _) = x + (y + _)
    omega
  | trans _ _ h1 h2 => exact h1.trans h2
theorem sumX_rowOf {X : Nat → Int} {n t : Nat} (h0 : X 0 = 0) (h : t ≤ n) : sumX (rowOf X n) t = X t := rowOf_take h0 h
theorem best_list {X : Nat → Int} (b : d.BestX X) : d.BestX (sumX (rowOf X d.L.length)) := best_congr (fun t h => (sumX_rowOf b.row.zero h).symm) b
theorem sqX_congr {X Y : Nat → Int} : ∀ {n : Nat}, (∀ t, t ≤ n → X t = Y t) → sqX X n = sqX Y n := fun h => sumF_congr fun i hi => by
  unfold ent
  rw [h i (by omega), h (i + 1) (by omega)]
/-- all best rows have the same sum of squares -/
theorem best_sq (ok : d.Ok) {X Y : Nat → Int} (b1 : d.BestX X) (b2 : d.BestX Y) : sqX X d.L.length = sqX Y d.L.length := by
  have p := best_perm ok rowOf_len rowOf_len (best_list b1) (best_list b2)
  have e := perm_sum (p.map fun x => x * x)
  rw [← sq_sum (n := d.L.length) rowOf_len, ← sq_sum (n := d.L.length) rowOf_len] at e
  rw [sqX_congr fun t h => (sumX_rowOf b1.row.zero h).symm, e]
  exact sqX_congr fun t h => sumX_rowOf b2.row.zero h
/-- a row with no greater sum of squares is best -/
theorem best_of_sq (ok : d.Ok) {X Y : Nat → Int} (b : d.BestX X) (r : d.RowX Y) (h : sqX Y d.L.length ≤ sqX X d.L.length) : d.BestX Y := by
  by_cases e : ∀ p q, p < d.L.length → q < d.L.length → d.a p < ent Y p → ent Y q < d.b q → Goes d.lo d.hi Y p q → ent Y p ≤ ent Y q + 1
  · exact ⟨r, e⟩
  · simp only [Classical.not_forall] at e
    obtain ⟨p, q, hp, hq, h1, h2, g, e⟩ := e
    have ne : p ≠ q := fun z => by
      subst z
      omega
    have r2 := swap_row r ne hp hq h1 h2 g
    have e2 := swap_sq (X := Y) ne hp hq
    obtain ⟨W, bW, hW⟩ := best_ex_aux _ _ r2 (Nat.le_refl _)
    have e3 := best_sq ok b bW
    omega
/-- what allowed swaps of best rows do -/
theorem SwOK.two (b : d.BestX (sumX ns)) (l : ns.length = d.L.length) {gap : Int} {p : Int × Int} (s : SwOK d ns gap p) : gap ≤ 1 := by
  obtain ⟨g, t, _, h1, h2, _, h3, h4, h5, go⟩ := s.ex
  have := b.even g t h1 h2 (by rw [ent_sumX (by omega)]; exact h4) (by rw [ent_sumX (by omega)]; exact h5) go
  rw [ent_sumX (by omega), ent_sumX (by omega)] at this
  omega
theorem sorted_uniq : ∀ {l m : List Int}, l.Perm m → l.Pairwise (· ≤ ·) → m.Pairwise (· ≤ ·) → l = m
  | [], m, p, _, _ => by rw [List.nil_perm.mp p]
  | x :: l, [], p, _, _ => by
    have := p.length_eq
    cases this
  | x :: l, y :: m, p, h1, h2 => by
    rw [List.pairwise_cons] at h1 h2
    have e : x = y := by
      have m1 : x ∈ y :: m := p.subset List.mem_cons_self
      have m2 : y ∈ x :: l := p.symm.subset List.mem_cons_self
      rcases List.mem_cons.mp m1 with e | m1
      · exact e
      · rcases List.mem_cons.mp m2 with e | m2
        · exact e.symm
        · have := h1.1 y m2
          have := h2.1 x m1
          omega
    subst e
    rw [sorted_uniq ((List.perm_cons x).mp p) h1.2 h2.2]
end
set_option Elab.async false
set_option linter.all false
set_option maxRecDepth 100000
set_option maxHeartbeats 4000000
def tChain3 (r r' r'' : R2) (ta tb tc td : TE) : TE := fun σ H Q => ta σ H fun x H1 => tb σ H1 fun y H2 => r x y H2 fun z H3 => ∃ k, z = .bl k ∧
  (if k = true then tc σ H3 fun w H4 => r' y w H4 fun z2 H5 => ∃ k2, z2 = .bl k2 ∧ (if k2 = true then td σ H5 fun v H6 => r'' w v H6 Q else Q (.bl false) H5) else Q (.bl false) H3)
theorem r_chain3 {r r' r'' : R2} {ta tb tc td : TE} {σ : L2.St} {H : Hp} {Q : VK} (h : ta σ H fun x H1 => tb σ H1 fun y H2 => r x y H2 fun z H3 => ∃ k, z = .bl k ∧
  (if k = true then tc σ H3 fun w H4 => r' y w H4 fun z2 H5 => ∃ k2, z2 = .bl k2 ∧ (if k2 = true then td σ H5 fun v H6 => r'' w v H6 Q else Q (.bl false) H5) else Q (.bl false) H3)) : tChain3 r r' r'' ta tb tc td σ H Q := h
set_option Elab.async false
set_option linter.all false
set_option maxRecDepth 100000
set_option maxHeartbeats 4000000
set_option exponentiation.threshold 2000
theorem best_min {d : PD} (ok : d.Ok) {X Y : Nat → Int} (b : d.BestX X) (r : d.RowX Y) : sqX X d.L.length ≤ sqX Y d.L.length := by
  obtain ⟨W, bW, hW⟩ := best_ex_aux _ _ r (Nat.le_refl _)
  have := best_sq ok b bW
  omega
/-- the bounds of the sums before the end are greater by 0 to m -/
structure Raised (d e : PD) (m : Int) : Prop where
  len : e.L.length = d.L.length
  A : e.A = d.A
  B : e.B = d.B
  m0 : 0 ≤ m
  l : ∀ i, i < d.L.length → nth d.L i ≤ nth e.L i ∧ nth e.L i ≤ nth d.L i + m
  u : ∀ i, i < d.L.length → nth d.U i ≤ nth e.U i ∧ nth e.U i ≤ nth d.U i + m
  last : nth e.L (d.L.length - 1) = nth d.L (d.L.length - 1)
section
variable {d e : PD} {m : Int}
theorem Raised.lo (r : Raised d e m) {t : Nat} (h : t ≤ d.L.length) : d.lo t ≤ e.lo t ∧ e.lo t ≤ d.lo t + m := by
  have m0 := r.m0
  cases t with
  | zero => rw [d.lo0, e.lo0]; omega
  | succ t => exact r.l t (by omega)
theorem Raised.hi (r : Raised d e m) {t : Nat} (h : t ≤ d.L.length) : d.hi t ≤ e.hi t ∧ e.hi t ≤ d.hi t + m := by
  have m0 := r.m0
  cases t with
  | zero => rw [d.hi0, e.hi0]; omega
  | succ t => exact r.u t (by omega)
theorem Raised.tot (r : Raised d e m) (ok : d.Ok) : e.lo d.L.length = d.lo d.L.length := by
  have one := ok.one
  obtain ⟨k, hk⟩ : ∃ k, d.L.length = k + 1 := ⟨d.L.length - 1, by omega⟩
  have := r.last
  rw [hk, Nat.add_sub_cancel] at this
  rw [hk]
  exact this
theorem row_end {d : PD} (ok : d.Ok) {X : Nat → Int} (r : d.RowX X) : X d.L.length = d.lo d.L.length := by
  have h1 := r.low _ (Nat.le_refl _)
  have h2 := r.high _ (Nat.le_refl _)
  have h3 := ok.totF
  omega
end
set_option Elab.async false
set_option linter.all false
set_option maxRecDepth 100000
set_option maxHeartbeats 4000000
inductive Od where
  | non
  | bl (b : Bool)
  | int (i : Int)
  | str (s : Str)
  | lst (l : List Od)
  | tup (l : List Od)
  | dic
mutual
/-- an object lies as d says -/
inductive OAt (H : Hp) : V → Od → Prop where
  | non : OAt H .non .non
  | bl (b : Bool) : OAt H (.bl b) (.bl b)
  | int (i : Int) : OAt H (.int i) (.int i)
  | str (s : Str) : OAt H (.str s) (.str s)
  | lst {a : Addr} {xs : List V} {ds : List Od} (h : H a = some (.lst xs)) (t : OAll H xs ds) : OAt H (.ref a) (.lst ds)
  | tup {a : Addr} {xs : List V} {ds : List Od} (h : H a = some (.tup xs)) (t : OAll H xs ds) : OAt H (.ref a) (.tup ds)
  | dic {a : Addr} (h : H a = some (.dK [])) : OAt H (.ref a) .dic
inductive OAll (H : Hp) : List V → List Od → Prop where
  | nil : OAll H [] []
  | cons {v : V} {vs : List V} {d : Od} {ds : List Od} (h : OAt H v d) (t : OAll H vs ds) : OAll H (v :: vs) (d :: ds)
end
mutual
theorem OAt.mono {H H' : Hp} (f : Fr [] H H') : ∀ {v : V} {d : Od}, OAt H v d → OAt H' v d
  | _, _, .non => .non
  | _, _, .bl b => .bl b
  | _, _, .int i => .int i
  | _, _, .str s => .str s
  | _, _, .lst h t => .lst (f _ _ (fun m => nomatch m) h) (OAll.mono f t)
  | _, _, .tup h t => .tup (f _ _ (fun m => nomatch m) h) (OAll.mono f t)
  | _, _, .dic h => .dic (f _ _ (fun m => nomatch m) h)
theorem OAll.mono {H H' : Hp} (f : Fr [] H H') : ∀ {vs : List V} {ds : List Od}, OAll H vs ds → OAll H' vs ds
  | _, _, .nil => .nil
  | _, _, .cons h t => .cons (OAt.mono f h) (OAll.mono f t)
end
theorem OAll.length {H : Hp} : ∀ {vs : List V} {ds : List Od}, OAll H vs ds → vs.length = ds.length
  | _, _, .nil => rfl
  | _, _, .cons _ t => by rw [List.length_cons, List.length_cons, OAll.length t]
theorem OAll.get {H : Hp} : ∀ {vs : List V} {ds : List Od} {i : Nat} {v : V}, OAll H vs ds → vs[i]? = some v → ∃ d, ds[i]? = some d ∧ OAt H v d
  | _, _, 0, _, .cons h _, e => by cases e; exact ⟨_, rfl, h⟩
  | _, _, i + 1, _, .cons (vs := vs) (ds := ds) _ t, e => by
    rw [List.getElem?_cons_succ] at e
    obtain ⟨d, h1, h2⟩ := OAll.get t e
    exact ⟨d, by rw [List.getElem?_cons_succ]; exact h1, h2⟩
theorem OAll.append {H : Hp} : ∀ {vs us : List V} {ds es : List Od}, OAll H vs ds → OAll H us es → OAll H (vs ++ us) (ds ++ es)
  | _, _, _, _, .nil, u => u
  | _, _, _, _, .cons h t, u => .cons h (t.append u)
theorem OAll.take {H : Hp} : ∀ {vs : List V} {ds : List Od} (n : Nat), OAll H vs ds → OAll H (vs.take n) (ds.take n)
  | _, _, 0, _ => .nil
  | _, _, _ + 1, .nil => .nil
  | _, _, n + 1, .cons h t => .cons h (t.take n)
theorem OAll.drop {H : Hp} : ∀ {vs : List V} {ds : List Od} (n : Nat), OAll H vs ds → OAll H (vs.drop n) (ds.drop n)
  | _, _, 0, h => h
  | _, _, _ + 1, .nil => .nil
  | _, _, n + 1, .cons _ t => t.drop n
theorem OAll.reverse {H : Hp} : ∀ {vs : List V} {ds : List Od}, OAll H vs ds → OAll H vs.reverse ds.reverse
  | _, _, .nil => .nil
  | _, _, .cons h t => by
    rw [List.reverse_cons, List.reverse_cons]
    exact t.reverse.append (.cons h .nil)
/-- its type -/
def Od.ty : Od → String
  | .non => "NoneType"
  | .bl _ => "bool"
  | .int _ => "int"
  | .str _ => "str"
  | .lst _ => "list"
  | .tup _ => "tuple"
  | .dic => "dict"
theorem OAt.tyX {K : PySem.W.Frag} {H : Hp} {v : V} {d : Od} (h : OAt H v d) : TyX K H v (.type d.ty) := by
  cases h with
  | non => exact .base .non
  | bl b => exact .base (.bl b)
  | int i => exact .base (.int i)
  | str s => exact .base (.str s)
  | lst h _ => exact .base (.lst h)
  | tup h _ => exact .base (.tup h)
  | dic h => exact .base (.dK h)
def Od.isT : Od → Bool
  | .tup _ => true
  | _ => false
def Od.isL : Od → Bool
  | .lst _ => true
  | _ => false
def Od.wh : Od → Bool
  | .int _ => true
  | _ => false
theorem Od.kitT {K : PySem.W.Frag} (d : Od) : PySem.W.kitOne K (.type d.ty) (.type "tuple") = some d.isT := by
  cases d with
  | non => exact kit_ty (a := "NoneType") (b := "tuple") (r := false) (by decide +kernel)
  | bl _ => exact kit_ty (a := "bool") (b := "tuple") (r := false) (by decide +kernel)
  | int _ => exact kit_ty (a := "int") (b := "tuple") (r := false) (by decide +kernel)
  | str _ => exact kit_ty (a := "str") (b := "tuple") (r := false) (by decide +kernel)
  | lst _ => exact kit_ty (a := "list") (b := "tuple") (r := false) (by decide +kernel)
  | tup _ => exact kit_ty (a := "tuple") (b := "tuple") (r := true) (by decide +kernel)
  | dic => exact kit_ty (a := "dict") (b := "tuple") (r := false) (by decide +kernel)
theorem Od.kitL {K : PySem.W.Frag} (d : Od) : PySem.W.kitOne K (.type d.ty) (.type "list") = some d.isL := by
  cases d with
  | non => exact kit_ty (a := "NoneType") (b := "list") (r := false) (by decide +kernel)
  | bl _ => exact kit_ty (a := "bool") (b := "list") (r := false) (by decide +kernel)
  | int _ => exact kit_ty (a := "int") (b := "list") (r := false) (by decide +kernel)
  | str _ => exact kit_ty (a := "str") (b := "list") (r := false) (by decide +kernel)
  | lst _ => exact kit_ty (a := "list") (b := "list") (r := true) (by decide +kernel)
  | tup _ => exact kit_ty (a := "tuple") (b := "list") (r := false) (by decide +kernel)
  | dic => exact kit_ty (a := "dict") (b := "list") (r := false) (by decide +kernel)
theorem r_isLo {K : PySem.W.Frag} {H : Hp} {Q : VK} {v : V} {d : Od} (h : OAt H v d) (q : Q (.bl d.isL) H) : rIsi K [v, .ty "list"] H Q := r_isi (.ty _) h.tyX d.kitL q
/-- a tuple of two integers -/
def Od.pair : Od → Bool
  | .tup l => decide (l.length = 2) && l.all Od.wh
  | _ => false
def Od.fst : Od → Int
  | .tup (.int v :: _) => v
  | _ => 0
def Od.snd : Od → Int
  | .tup (_ :: .int v :: _) => v
  | _ => 0
set_option Elab.async false
set_option linter.all false
set_option maxRecDepth 100000
set_option maxHeartbeats 4000000
set_option exponentiation.threshold 3000
local macro_rules | `(tactic| walk_at "ev.1") => `(tactic| with_reducible first
  | refine' r_seq ?_ | refine' r_asg ?_ | refine' r_op ?_ | (refine' r_var ?v ?_; (case v => k_dflt exact rfl)) | refine' r_c ?_ | refine' r_name ?_ | refine' r_I0 ?_
  | (refine' r_I ?c ?_; (case c => k_dflt exact pow10 (by decide)))
  | refine' r_cons ?_ | refine' r_nil ?_ | refine' r_call ?_ | refine' r_drop ?_ | refine' r_ret ?_ | refine' r_ifs ?_ | refine' r_test ?_ | refine' r_exif ?_ | refine' r_un ?_ | refine' r_U ?_
  | (refine' r_ixL ?s ?_; (case s => k_dflt walk_at "ev.sq")) | (refine' r_ixT ?s ?_; (case s => k_dflt walk_at "ev.st")) | (refine' r_at ?e ?_; (case e => k_dflt exact rfl)) | (refine' r_ixn ?e ?_; (case e => k_dflt exact rfl)) | (refine' r_ixST (r_ixT ?s ?_); (case s => k_dflt walk_at "ev.st")) | (refine' r_ixSL (r_ixL ?s ?_); (case s => k_dflt walk_at "ev.sq"))
  | refine' r_cb ?_ | refine' r_B ?_ | refine' r_and ?_ | refine' r_or ?_ | refine' r_not ?_ | refine' r_andV ?_ | refine' r_orV ?_ | refine' r_notV ?_ | refine' r_if ?_
  | refine' iteT ?_ | refine' iteF ?_ | refine' iteNT ?_ | refine' iteNF ?_ | refine' r_chain ?_
  | (refine' r_gtup ?s ?e ?_; (case s => k_dflt walk_at "ev.st"); (case e => k_dflt exact rfl)) | refine' r_gcons ?_ | refine' r_gnil ?_ | refine' r_gsub ?_
  | (refine' r_setL ?s ?_; (case s => k_dflt walk_at "ev.hg")) | refine' r_tup ?_ | refine' r_lst ?_
  | refine' r_bm ?_ | (refine' r_tyL ?s ?_; (case s => k_dflt walk_at "ev.hg")) | (refine' r_app ?s ?e ?_; (case s => k_dflt walk_at "ev.hg"); (case e => k_dflt walk_at "ev.szl"))
  | refine' r_sl ?_ | refine' r_part ?_ | refine' r_exint ?_ | refine' r_nopart ?_ | (refine' r_slL ?s ?_; (case s => k_dflt walk_at "ev.sq")) | refine' r_revL ?_ | (refine' r_exrev ?s ?_; (case s => k_dflt walk_at "ev.sq"))
  | (refine' r_eq ?e ?_; (case e => k_dflt exact rfl)) | (refine' r_ne ?e ?_; (case e => k_dflt exact rfl)) | refine' r_par ?_ | refine' r_expar ?_ | refine' r_par3 ?_ | refine' r_expar3 ?_ | refine' r_methK ?_ | refine' r_callKw ?_ | refine' r_ckw ?_ | refine' r_zipL ?_ | refine' r_augS ?_ | refine' r_ipI ?_ | refine' r_ienumS ?_ | (refine' r_sum ?s ?_; (case s => k_dflt walk_at "ev.sq")) | (refine' r_glst ?s ?e ?_; (case s => k_dflt walk_at "ev.sq"); (case e => k_dflt exact rfl))
  | (refine' r_cat ?a ?b ?e ?_; (case a => k_dflt walk_at "ev.hg"); (case b => k_dflt walk_at "ev.hg"); (case e => k_dflt walk_at "ev.sz"))
  | refine' r_for ?_ | refine' r_lc ?_ | refine' r_ilist ?_ | (refine' r_exil ?s ?_; (case s => k_dflt walk_at "ev.sq")) | refine' r_itup ?_ | (refine' r_exit ?s ?_; (case s => k_dflt walk_at "ev.st"))
  | refine' r_irng1 ?_ | refine' r_irng2 ?_ | refine' r_irng3 ?_ | refine' r_izip ?_ | refine' r_izip3 ?_ | refine' r_izip4 ?_ | (refine' r_exz3 ?a ?b ?c ?_; (case a => k_dflt walk_at "ev.sq"); (case b => k_dflt walk_at "ev.sq"); (case c => k_dflt walk_at "ev.sq")) | (refine' r_exz4 ?a ?b ?c ?d ?_; (case a => k_dflt walk_at "ev.sq"); (case b => k_dflt walk_at "ev.sq"); (case c => k_dflt walk_at "ev.sq"); (case d => k_dflt walk_at "ev.sq")) | refine' r_ienum ?_
  | (refine' r_exz ?a ?b ?_; (case a => k_dflt walk_at "ev.sq"); (case b => k_dflt walk_at "ev.sq")) | (refine' r_exen ?a ?_; (case a => k_dflt walk_at "ev.sq"))
  | refine' r_yes ?_ | (refine' r_len ?s ?_; (case s => k_dflt walk_at "ev.sq")) | (refine' r_lenT ?s ?_; (case s => k_dflt walk_at "ev.st")) | refine' r_int1 ?_ | refine' r_int2 ?_ | refine' r_int3 ?_
  | (refine' r_mk ?e ?_; (case e => k_dflt exact Nat.le_of_ble_eq_true rfl))
  | refine' r_chain3 ?_ | refine' r_tru ?_ | (refine' r_truL ?s ?_; (case s => k_dflt walk_at "ev.sq")) | refine' r_bm0 ?_ | refine' r_star ?_ | (refine' r_exstarT ?s ?_; (case s => k_dflt walk_at "ev.st")) | (refine' r_aug ?s ?_; (case s => k_dflt exact rfl)) | refine' r_break ?_ | refine' r_cont ?_ | refine' r_gsl ?_
  | refine' r_make ?_ | refine' r_meth ?_ | refine' r_prop ?_ | refine' r_fld ?_ | refine' r_sfld ?_ | refine' r_next ?_)
/-- data of a depth -/
inductive Ak : Nat → Od → Prop where
  | non {n : Nat} : Ak n .non
  | bl {n : Nat} (b : Bool) : Ak n (.bl b)
  | int {n : Nat} (i : Int) : Ak n (.int i)
  | str {n : Nat} (s : Str) : Ak n (.str s)
  | lst {n : Nat} {ds : List Od} (l : ds.length ≤ 10000) (h : ∀ d ∈ ds, Ak n d) : Ak (n + 1) (.lst ds)
  | tup {n : Nat} {ds : List Od} (l : ds.length ≤ 10000) (h : ∀ d ∈ ds, Ak n d) : Ak (n + 1) (.tup ds)
def Od.isB : Od → Bool
  | .bl _ => true
  | _ => false
def Od.isI : Od → Bool
  | .bl _ => true
  | .int _ => true
  | _ => false
def Od.isS : Od → Bool
  | .str _ => true
  | _ => false
def Od.isQ : Od → Bool
  | .lst _ => true
  | .tup _ => true
  | _ => false
section
variable {K : PySem.W.Frag} {H : Hp} {Q : VK} {v : V} {d : Od}
theorem Od.kitB (d : Od) : PySem.W.kitOne K (.type d.ty) (.type "bool") = some d.isB := by
  cases d with
  | non => exact kit_ty (a := "NoneType") (b := "bool") (r := false) (by decide +kernel)
  | bl _ => exact kit_ty (a := "bool") (b := "bool") (r := true) (by decide +kernel)
  | int _ => exact kit_ty (a := "int") (b := "bool") (r := false) (by decide +kernel)
  | str _ => exact kit_ty (a := "str") (b := "bool") (r := false) (by decide +kernel)
  | lst _ => exact kit_ty (a := "list") (b := "bool") (r := false) (by decide +kernel)
  | tup _ => exact kit_ty (a := "tuple") (b := "bool") (r := false) (by decide +kernel)
  | dic => exact kit_ty (a := "dict") (b := "bool") (r := false) (by decide +kernel)
theorem Od.kitI (d : Od) : PySem.W.kitOne K (.type d.ty) (.type "int") = some d.isI := by
  cases d with
  | non => exact kit_ty (a := "NoneType") (b := "int") (r := false) (by decide +kernel)
  | bl _ => exact kit_ty (a := "bool") (b := "int") (r := true) (by decide +kernel)
  | int _ => exact kit_ty (a := "int") (b := "int") (r := true) (by decide +kernel)
  | str _ => exact kit_ty (a := "str") (b := "int") (r := false) (by decide +kernel)
  | lst _ => exact kit_ty (a := "list") (b := "int") (r := false) (by decide +kernel)
  | tup _ => exact kit_ty (a := "tuple") (b := "int") (r := false) (by decide +kernel)
  | dic => exact kit_ty (a := "dict") (b := "int") (r := false) (by decide +kernel)
theorem Od.kitS (d : Od) : PySem.W.kitOne K (.type d.ty) (.type "str") = some d.isS := by
  cases d with
  | non => exact kit_ty (a := "NoneType") (b := "str") (r := false) (by decide +kernel)
  | bl _ => exact kit_ty (a := "bool") (b := "str") (r := false) (by decide +kernel)
  | int _ => exact kit_ty (a := "int") (b := "str") (r := false) (by decide +kernel)
  | str _ => exact kit_ty (a := "str") (b := "str") (r := true) (by decide +kernel)
  | lst _ => exact kit_ty (a := "list") (b := "str") (r := false) (by decide +kernel)
  | tup _ => exact kit_ty (a := "tuple") (b := "str") (r := false) (by decide +kernel)
  | dic => exact kit_ty (a := "dict") (b := "str") (r := false) (by decide +kernel)
theorem r_isB (h : OAt H v d) (q : Q (.bl d.isB) H) : rIsi K [v, .ty "bool"] H Q := r_isi (.ty _) h.tyX d.kitB q
theorem r_isIo (h : OAt H v d) (q : Q (.bl d.isI) H) : rIsi K [v, .ty "int"] H Q := r_isi (.ty _) h.tyX d.kitI q
theorem r_isS (h : OAt H v d) (q : Q (.bl d.isS) H) : rIsi K [v, .ty "str"] H Q := r_isi (.ty _) h.tyX d.kitS q
/-- a list or a tuple -/
theorem r_isQ {t : Addr} (h : OAt H v d) (ht : H t = some (.tup [.ty "list", .ty "tuple"])) (q : Q (.bl d.isQ) H) : rIsiT K [v, .ref t] H Q :=
  ⟨v, t, _, _, [.type "list", .type "tuple"], d.isQ, rfl, ht, .cons (.ty _) (.cons (.ty _) .nil), h.tyX, kitAny_cons d.kitL (fun y => kitAny_cons d.kitT (fun z => by
    rw [kitAny_nil, show d.isQ = false by cases d <;> first | rfl | exact Bool.noConfusion (show true = false from y) | exact Bool.noConfusion (show true = false from z)]) (fun z => by cases d <;> first | rfl | exact Bool.noConfusion (show false = true from z))) (fun z => by cases d <;> first | rfl | exact Bool.noConfusion (show false = true from z)), q⟩
end
theorem ix_any {K : PySem.W.Frag} {H : Hp} {Q : VK} {a : Addr} {xs : List V} {i : Int} {v : V} (s : SqL K H a xs ∨ SqT K H a xs) (e : atI xs i = some v) (q : Q v H) : rIx K (.ref a) (.int i) H Q := by
  rcases s with s | s
  · exact .inl ⟨a, xs, i, v, rfl, rfl, s, e, q⟩
  · exact .inr (.inl ⟨a, xs, i, v, rfl, rfl, s, e, q⟩)
section
variable {P : Program} {w : World} {K : PySem.W.Frag} {mg : Str → Option Value} {base : Heap}
def sp_none : Sp := fun _ _ _ _ => False
def sp_ak (n : Nat) : Sp := fun vs H Q _ => ∃ (x y : V) (d : Od), vs = [x, y] ∧ OAt H x d ∧ OAt H y d ∧ Ak n d ∧ ∀ H', Fr [] H H' → Q (.bl true) H'
def sp__law_alike (K : PySem.W.Frag) : Sp := sp_ak 3
abbrev FkAk (P : Program) (w : World) (K : PySem.W.Frag) (mg : Str → Option Value) (base : Heap) (l : Nat) (sp : Sp) : Prop := Fk P w K mg base "_law_alike" ["found", "due"] l sp s__law_alike "_law_alike"
theorem ka_bot (T : Tx fa fn K mg base) : FkAk P w K mg base 1 sp_none := by
  refine T.fk 43 62 (q := "_law_alike") (st := s__law_alike) sc__law_alike (fun _ _ _ _ _ _ us hl => match us, hl with | [_, _], _ => rfl) (fun vs H Q E h => h.elim) (fun cdv A outer s H vs Q E hr h => h.elim)
theorem ka_step (T : Tx fa fn K mg base) {l n : Nat} {sp0 : Sp} (rc : FkAk P w K mg base l sp0)
    (h0 : ∀ {x y : V} {d : Od} {m : Nat} {H : Hp} {Q : VK}, n = m + 1 → OAt H x d → OAt H y d → Ak m d → (∀ H', Fr [] H H' → Q (.bl true) H') → sp0 [x, y] H Q E0) : FkAk P w K mg base (l + 1) (sp_ak n) := by
  refine T.fk 43 62 (q := "_law_alike") (st := s__law_alike) sc__law_alike (fun _ _ _ _ _ _ us hl => match us, hl with | [_, _], _ => rfl) (fun vs H Q E h => ?_) (fun cdv A outer s H vs Q E hr h => ?_)
  · obtain ⟨x, y, d, rfl, _⟩ := h
    rfl
  · obtain ⟨x, y, d, rfl, hx, hy, ak, k⟩ := h
    refine ⟨_, (pss_cons (ps_if (pt_val (pe_callB call_isiT (by rfl) (T.fr 0) (by decide +kernel) (pa_cons (pv 1) (pa_cons (pe_tup (pa_cons (pe_bltn (v := .ty "list") (u := .type "list") (by rfl) (T.fr 8) (by decide +kernel) rfl) (pa_cons (pe_bltn (v := .ty "tuple") (u := .type "tuple") (by rfl) (T.fr 61) (by decide +kernel) rfl) pa_nil))) pa_nil)))) (pss_cons (ps_if (PW.pt (pw_or (pt_not (pt_val (pe_callB call_isiT (by rfl) (T.fr 0) (by decide +kernel) (pa_cons (pv 0) (pa_cons (pe_tup (pa_cons (pe_bltn (v := .ty "list") (u := .type "list") (by rfl) (T.fr 8) (by decide +kernel) rfl) (pa_cons (pe_bltn (v := .ty "tuple") (u := .type "tuple") (by rfl) (T.fr 61) (by decide +kernel) rfl) pa_nil))) pa_nil))))) (pw_or1 (pt_cmpR op_ne (pe_callB call_isi (by rfl) (T.fr 0) (by decide +kernel) (pa_cons (pv 0) (pa_cons (pe_bltn (v := .ty "list") (u := .type "list") (by rfl) (T.fr 8) (by decide +kernel) rfl) pa_nil))) (pe_callB call_isi (by rfl) (T.fr 0) (by decide +kernel) (pa_cons (pv 1) (pa_cons (pe_bltn (v := .ty "list") (u := .type "list") (by rfl) (T.fr 8) (by decide +kernel) rfl) pa_nil))) (nomark _))))) (pss_one (ps_ret pe_bl)) pss_nil)
      (pss_cons (ps_if (pt_cmpR op_ne (pe_callB call_len_seq (by rfl) (T.fr 6) (by decide +kernel) (pa_cons (pv 0) pa_nil)) (pe_callB call_len_seq (by rfl) (T.fr 6) (by decide +kernel) (pa_cons (pv 1) pa_nil)) (nomark _)) (pss_one (ps_ret pe_bl)) pss_nil)
      (pss_one (ps_ret (pe_callB (cr_all rfl) (by rfl) (T.fr 5) (by decide +kernel) (pa_cons (pe_lc (own := [("k", 2)]) (tt := tYes) (te := (tCall sp0 [] E0 (tCons (tOp (rIx K) (tVar 0) (tVar 2)) (tCons (tOp (rIx K) (tVar 1) (tVar 2)) tNil)))) rfl sc__law_alike.nd (pi_range1 (by rfl) (T.fr 13) (pa_cons (pe_callB call_len_seq (by rfl) (T.fr 6) (by decide +kernel) (pa_cons (pv 1) pa_nil)) pa_nil)) (blkOk_by (N := ["found", "due", "k"]) (sc := defScope s__law_alike) (by decide +kernel)) (fun _ _ _ _ _ => (pg_name (i := 2) sc__law_alike.nd rfl (by first | exact Or.inl rfl | exact Or.inr rfl))) (fun _ _ _ _ _ => pts_nil) (fun _ _ _ _ _ => (pe_f rc hr (pa_cons (pe_ix ix_seq (pv 0) (pv 2) (fun _ _ => rfl)) (pa_cons (pe_ix ix_seq (pv 1) (pv 2) (fun _ _ => rfl)) pa_nil)) (Nat.le_refl _)))) pa_nil)))))) pss_nil)
      (pss_cons (ps_if (PW.pt (pw_or (pt_cmpR op_ne (pe_callB call_isi (by rfl) (T.fr 0) (by decide +kernel) (pa_cons (pv 0) (pa_cons (pe_bltn (v := .ty "bool") (u := .type "bool") (by rfl) (T.fr 1) (by decide +kernel) rfl) pa_nil))) (pe_callB call_isi (by rfl) (T.fr 0) (by decide +kernel) (pa_cons (pv 1) (pa_cons (pe_bltn (v := .ty "bool") (u := .type "bool") (by rfl) (T.fr 1) (by decide +kernel) rfl) pa_nil))) (nomark _)) (pw_or1 (pt_cmpR op_ne (pe_callB call_isi (by rfl) (T.fr 0) (by decide +kernel) (pa_cons (pv 0) (pa_cons (pe_bltn (v := .ty "int") (u := .type "int") (by rfl) (T.fr 2) (by decide +kernel) rfl) pa_nil))) (pe_callB call_isi (by rfl) (T.fr 0) (by decide +kernel) (pa_cons (pv 1) (pa_cons (pe_bltn (v := .ty "int") (u := .type "int") (by rfl) (T.fr 2) (by decide +kernel) rfl) pa_nil))) (nomark _))))) (pss_one (ps_ret pe_bl)) pss_nil)
      (pss_one (ps_ret (pe_and (pe_cmpR op_eq (pe_callB call_isi (by rfl) (T.fr 0) (by decide +kernel) (pa_cons (pv 0) (pa_cons (pe_bltn (v := .ty "str") (u := .type "str") (by rfl) (T.fr 60) (by decide +kernel) rfl) pa_nil))) (pe_callB call_isi (by rfl) (T.fr 0) (by decide +kernel) (pa_cons (pv 1) (pa_cons (pe_bltn (v := .ty "str") (u := .type "str") (by rfl) (T.fr 60) (by decide +kernel) rfl) pa_nil))) (nomark _)) (pe_one (pe_cmpR op_eq (pv 0) (pv 1) (nomark _)))))))), ?_⟩
    walk_at "ev0"
    intro t1 kt1
    have f1 : Fr [] H _ := (Fr.refl H).new (o := .tup [.ty "list", .ty "tuple"]) kt1
    have hx1 := hx.mono f1
    have hy1 := hy.mono f1
    walk_at "ev"
    refine r_isQ hy1 upd_same ?_
    generalize upd H t1 _ = H1 at f1 hx1 hy1 ⊢
    walk_at "ev"
    cases q : d.isQ with
    | false =>
      have xy : x = y := by
        cases hx1 <;> cases hy1 <;> first | rfl | exact Bool.noConfusion (show true = false from q) | exact nomatch ak
      have fl : scal y y = true := by
        cases hy1 <;> first | rfl | exact Bool.noConfusion (show true = false from q) | exact nomatch ak
      refine iteF ?_
      walk_at "ev"
      refine r_isB hx1 ?_
      walk_at "ev"
      refine r_isB hy1 ?_
      walk_at "ev"
      refine r_iteNY rfl ?_
      walk_at "ev"
      refine r_isIo hx1 ?_
      walk_at "ev"
      refine r_isIo hy1 ?_
      walk_at "ev"
      refine r_iteNY rfl ?_
      walk_at "ev"
      refine r_isS hx1 ?_
      walk_at "ev"
      refine r_isS hy1 ?_
      walk_at "ev"
      rw [xy]
      rw [if_pos (decide_eq_true rfl)]
      walk_at "ev"
      refine r_eq fl ?_
      rw [decide_eq_true rfl]
      exact k _ f1
    | true =>
      have sq : ∃ (a b : Addr) (xs ys : List V) (ds : List Od) (m : Nat), x = .ref a ∧ y = .ref b ∧ (SqL K H1 a xs ∨ SqT K H1 a xs) ∧ (SqL K H1 b ys ∨ SqT K H1 b ys) ∧ OAll H1 xs ds ∧ OAll H1 ys ds ∧ ds.length ≤ 10000 ∧ n = m + 1 ∧ ∀ e ∈ ds, Ak m e := by
        cases ak with
        | lst l h =>
          cases hx1 with | lst g1 t1 =>
          cases hy1 with | lst g2 t2 =>
          exact ⟨_, _, _, _, _, _, rfl, rfl, .inl (SqL.of g1), .inl (SqL.of g2), t1, t2, l, rfl, h⟩
        | tup l h =>
          cases hx1 with | tup g1 t1 =>
          cases hy1 with | tup g2 t2 =>
          exact ⟨_, _, _, _, _, _, rfl, rfl, .inr (SqT.of g1), .inr (SqT.of g2), t1, t2, l, rfl, h⟩
        | non => exact Bool.noConfusion (show false = true from q)
        | bl b => exact Bool.noConfusion (show false = true from q)
        | int b => exact Bool.noConfusion (show false = true from q)
        | str b => exact Bool.noConfusion (show false = true from q)
      refine iteT ?_
      walk_at "ev"
      intro t2 kt2
      have f2 : Fr [] H1 _ := (Fr.refl H1).new (o := .tup [.ty "list", .ty "tuple"]) kt2
      have hx2 := hx1.mono f2
      have hy2 := hy1.mono f2
      walk_at "ev"
      refine r_isQ hx2 upd_same ?_
      rw [q]
      generalize upd H1 t2 _ = H2 at f2 hx2 hy2 ⊢
      walk_at "ev"
      refine r_isLo hx2 ?_
      walk_at "ev"
      refine r_isLo hy2 ?_
      walk_at "ev"
      refine r_iteNY rfl ?_
      walk_at "ev"
      obtain ⟨a, b, xs, ys, ds, m, rfl, rfl, sx, sy, ax, ay, l9, rfl, hak⟩ := sq
      have lx := ax.length
      have ly := ay.length
      have sx2 : SqL K H2 a xs ∨ SqT K H2 a xs := sx.imp (fun h => f2.sql h nin) (fun h => f2.sqt h nin)
      have sy2 : SqL K H2 b ys ∨ SqT K H2 b ys := sy.imp (fun h => f2.sql h nin) (fun h => f2.sqt h nin)
      refine ⟨a, xs, rfl, sx2, ?_⟩
      walk_at "ev"
      refine ⟨b, ys, rfl, sy2, ?_⟩
      walk_at "ev"
      refine r_iteNY (by rw [lx, ly]) ?_
      walk_at "ev"
      refine ⟨b, ys, rfl, sy2, ?_⟩
      walk_at "ev"
      refine ⟨by omega, by omega, ?_⟩
      have ey : ((ys.length : Int)).toNat = ys.length := by omega
      rw [ey]
      refine lc_pure (walk_range (lo := 0)) (fun _ => .bl true) (show ys.length ≤ 100000 by omega) (fun H' e => trivial) (fun i H' x H'' y => by rw [y.1]; exact Fr.refl _) (fun i x H' H'' R' hi e yy kR => ?_) (fun D H3 hD e3 hD' => ?_)
      · obtain ⟨rfl, rfl⟩ := yy
        have e1 : (0 : Int) + (i : Int) = (i : Int) := by omega
        simp only [e1]
        have fe := f2.trans e
        obtain ⟨v1, g1⟩ : ∃ v1, xs[i]? = some v1 := ⟨_, List.getElem?_eq_getElem (by omega)⟩
        obtain ⟨v2, g2⟩ : ∃ v2, ys[i]? = some v2 := ⟨_, List.getElem?_eq_getElem (by omega)⟩
        obtain ⟨d1, q1, o1⟩ := ax.get g1
        obtain ⟨d2, q2, o2⟩ := ay.get g2
        obtain rfl : d1 = d2 := Option.some.inj (q1.symm.trans q2)
        walk_at "ev"
        refine ⟨rfl, ?_⟩
        walk_at "ev"
        refine ix_any (sx2.imp (fun h => e.sql h nin) (fun h => e.sqt h nin)) (atI_nat g1) ?_
        walk_at "ev"
        refine ix_any (sy2.imp (fun h => e.sql h nin) (fun h => e.sqt h nin)) (atI_nat g2) ?_
        walk_at "ev"
        exact h0 rfl (o1.mono fe) (o2.mono fe) (hak _ (List.mem_of_getElem? q1)) fun H4 f4 => kR _ f4
      walk_at "ev"
      refine r_allB (bs := (List.range ys.length).map fun _ => true) (b := true) (SqL.of (by rw [List.map_map]; exact hD')) (by simp) ?_
      exact k _ ((f1.trans f2).trans e3)
theorem ak_up {m : Nat} {x y : V} {d : Od} {H : Hp} {Q : VK} (h1 : OAt H x d) (h2 : OAt H y d) (a : Ak m d) (k : ∀ H', Fr [] H H' → Q (.bl true) H') : sp_ak m [x, y] H Q E0 := ⟨x, y, d, rfl, h1, h2, a, k⟩
theorem ka_0 (T : Tx fa fn K mg base) : FkAk P w K mg base 2 (sp_ak 0) := ka_step (n := 0) T (ka_bot T) fun e => nomatch e
theorem ka_1 (T : Tx fa fn K mg base) : FkAk P w K mg base 3 (sp_ak 1) := ka_step (n := 1) T (ka_0 T) fun e h1 h2 a k => by obtain rfl := Nat.succ.inj e; exact ak_up h1 h2 a k
theorem ka_2 (T : Tx fa fn K mg base) : FkAk P w K mg base 4 (sp_ak 2) := ka_step (n := 2) T (ka_1 T) fun e h1 h2 a k => by obtain rfl := Nat.succ.inj e; exact ak_up h1 h2 a k
theorem k__law_alike (T : Tx fa fn K mg base) : Fk P w K mg base "_law_alike" ["found", "due"] 5 (sp__law_alike K) s__law_alike "_law_alike" := ka_step (n := 3) T (ka_2 T) fun e h1 h2 a k => by obtain rfl := Nat.succ.inj e; exact ak_up h1 h2 a k
/-- lists of integers that are alike -/
theorem oall_ints {H : Hp} : ∀ ns : List Int, OAll H (ns.map V.int) (ns.map Od.int)
  | [] => .nil
  | n :: r => .cons (.int n) (oall_ints r)
theorem ak_ints {H : Hp} {Q : VK} {a b : Addr} {ns : List Int} (ha : H a = some (.lst (ns.map V.int))) (hb : H b = some (.lst (ns.map V.int))) (l : ns.length ≤ 10000) (k : ∀ H', Fr [] H H' → Q (.bl true) H') : sp__law_alike K ([V.ref a, V.ref b] ++ []) H Q E0 :=
  ⟨.ref a, .ref b, .lst (ns.map Od.int), rfl, .lst ha (oall_ints ns), .lst hb (oall_ints ns), .lst (by rw [List.length_map]; exact l) fun d m => by
    obtain ⟨i, _, rfl⟩ := List.mem_map.mp m
    exact .int i, k⟩
end
set_option Elab.async false
set_option linter.all false
set_option maxRecDepth 100000
set_option maxHeartbeats 4000000
set_option exponentiation.threshold 3000
theorem wdiv {i : Int} {j : Int} (h0 : 0 < j) (h : j < 1000) : CDivW i j := wide_div (b := 10) h0 (by have e : (2 : Nat) ^ 10 = 1024 := rfl; omega) (by decide) (by decide)
/-- the last one anew -/
def lastL (L : List Int) (x : Int) : List Int := L.dropLast ++ [x]
theorem lastL_len {L : List Int} {x : Int} (h : 1 ≤ L.length) : (lastL L x).length = L.length := by
  unfold lastL
  rw [List.length_append, List.length_dropLast, List.length_singleton]
  omega
theorem lastL_nth {L : List Int} {x : Int} {i : Nat} (h : i + 1 < L.length) : nth (lastL L x) i = nth L i := by
  unfold lastL
  rw [nth_app_lt (by rw [List.length_dropLast]; omega)]
  unfold nth
  rw [List.getD_eq_getElem?_getD, List.getD_eq_getElem?_getD, List.getElem?_dropLast, if_pos (by omega)]
theorem lastL_end {L : List Int} {x : Int} : nth (lastL L x) (L.length - 1) = x := nth_app_at (by rw [List.length_dropLast])
set_option Elab.async false
set_option linter.all false
set_option maxRecDepth 100000
set_option maxHeartbeats 4000000
set_option exponentiation.threshold 3000
section
variable {P : Program} {w : World} {K : PySem.W.Frag} {mg : Str → Option Value} {base : Heap}
def sp__law_plan (K : PySem.W.Frag) : Sp := fun vs H Q _ => ∃ (r : Addr) (d : PD), vs = [.ref r] ∧ RawAt [] H true r d ∧ d.Ok ∧ ∀ p H', Fr [] H H' → NewP K H H' p d → Q (.ref p) H'
theorem k__law_plan (T : Tx fa fn K mg base) : Fk P w K mg base "_law_plan" ["box"] 5 (sp__law_plan K) s__law_plan "_law_plan" := by
  refine T.fk 44 63 (q := "_law_plan") (st := s__law_plan) sc__law_plan (fun _ _ _ _ _ _ us hl => match us, hl with | [_], _ => rfl) (fun vs H Q E h => ?_) (fun cdv A outer s H vs Q E hr h => ?_)
  · obtain ⟨r, d, rfl, _⟩ := h
    rfl
  · obtain ⟨r, d, rfl, ra, ok, k⟩ := h
    obtain ⟨l1, l2, l3, l4, h0, ⟨h1, h2, h3, h4⟩, _⟩ := ra.ex
    refine ⟨_, (pss_one (ps_ret (pe_mk (k_Plan___init__ T) (T.glo 27) hr (pa_cons (pe_ix ix_tup (pv 0) pe_int (fun _ _ => rfl)) (pa_cons (pe_ix ix_tup (pv 0) pe_int (fun _ _ => rfl)) (pa_cons (pe_ix ix_tup (pv 0) pe_int (fun _ _ => rfl)) (pa_cons (pe_ix ix_tup (pv 0) pe_int (fun _ _ => rfl)) pa_nil))))))), ?_⟩
    have h0 : H r = some (.tup [.ref l1, .ref l2, .ref l3, .ref l4]) := h0
    walk_at "ev0"
    exact r_plan ok h1 h2 h3 h4 k
end
set_option Elab.async false
set_option linter.all false
set_option maxRecDepth 100000
set_option maxHeartbeats 4000000
set_option exponentiation.threshold 3000
def In1J (g1 : TG) (tt1 : TT) (te : TE) (vs1 : List Nat) (σ2 : L2.St) (D : Addr) (Nx : Hp → Prop) (J1 : It) (H4 : Hp) : Prop := ∃ W1 : Nat → Nat → Hp → Prop, (∃ m, W1 0 m H4) ∧ ∀ j k H, W1 j k H →
      (J1.stop j H ∧ Nx H) ∨ (J1.go j H ∧ ∃ Nx1 : Hp → Prop, (∀ H', Nx1 H' → ∃ k', k' < k ∧ W1 (j + 1) k' H') ∧ ∀ x H', J1.yld j H x H' → g1 x (wipe σ2 vs1) H' fun σ3 H5 => wipe σ3 vs1 = wipe σ2 vs1 ∧ tt1 σ3 H5 fun b H6 =>
        if b = true then te σ3 H6 fun y H7 => ∃ acc, H7 D = some (.lst acc) ∧ acc.length < sizeLine ∧ Nx1 (upd H7 D (.lst (acc ++ [y]))) else Nx1 H6)
def Lc2J (g : TG) (tt : TT) (wi1 : TI) (g1 : TG) (tt1 : TT) (te : TE) (vs vs1 : List Nat) (σ : L2.St) (Q : VK) (J : It) (H1 : Hp) : Prop := ∀ D, H1 D = none → ∃ W : Nat → Nat → Hp → Prop, (∃ m, W 0 m (upd H1 D (.lst []))) ∧ ∀ i m H, W i m H →
  (J.stop i H ∧ Q (.ref D) H) ∨ (J.go i H ∧ ∃ Nx : Hp → Prop, (∀ H', Nx H' → ∃ m', m' < m ∧ W (i + 1) m' H') ∧ ∀ x H', J.yld i H x H' → g x (wipe σ vs) H' fun σ2 H2 => wipe σ2 vs = wipe σ vs ∧ tt σ2 H2 fun b H3 =>
    if b = true then wi1 σ2 H3 (In1J g1 tt1 te vs1 σ2 D Nx) else Nx H3)
theorem r_lc2 {wi : TI} {g : TG} {tt : TT} {wi1 : TI} {g1 : TG} {tt1 : TT} {te : TE} {vs vs1 : List Nat} {σ : L2.St} {H : Hp} {Q : VK} (h : wi σ H (Lc2J g tt wi1 g1 tt1 te vs vs1 σ Q)) : tLc2 wi g tt wi1 g1 tt1 te vs vs1 σ H Q := h
theorem in1_it {J : It} {n : Nat} {G : Hp → Prop} {Y : Nat → Hp → V → Hp → Prop} (w : Walk J n G Y) {g : TG} {te : TE} {vs : List Nat} {σ : L2.St} {H1 : Hp} {D : Addr} {Nx : Hp → Prop} (Pv : Nat → Hp → Prop) (h0 : Pv 0 H1) (hG : ∀ i H, i ≤ n → Pv i H → G H)
    (hs : ∀ i x H H', i < n → Pv i H → Y i H x H' → g x (wipe σ vs) H' fun σ2 H2 => wipe σ2 vs = wipe σ vs ∧ te σ2 H2 fun y H4 => ∃ acc, H4 D = some (.lst acc) ∧ acc.length < sizeLine ∧ Pv (i + 1) (upd H4 D (.lst (acc ++ [y])))) (hd : ∀ H, Pv n H → Nx H) : In1J g tYes te vs σ D Nx J H1 := by
  refine ⟨fun i m H => m = n - i ∧ i ≤ n ∧ Pv i H, ⟨n, by simp, Nat.zero_le _, h0⟩, ?_⟩
  rintro i m H ⟨rfl, hi, p⟩
  have q := hG i H hi p
  by_cases hlt : i < n
  · refine .inr ⟨w.goes i H hlt q, Pv (i + 1), fun H' p' => ⟨n - (i + 1), by omega, rfl, hlt, p'⟩, fun x H' y => ?_⟩
    have := hs i x H H' hlt p (w.yields i H x H' hlt q y)
    exact this
  · have e : i = n := by omega
    subst e
    exact .inl ⟨w.stops H q, hd H p⟩
set_option Elab.async false
set_option linter.all false
set_option maxRecDepth 100000
set_option maxHeartbeats 4000000
open PySem PySem.Spec PyProof.Rows L2 SrtO Srt
def sdS (up : Bool) : Str := if up = true then "high" else "low"
def sideV (p : Nat × Bool) : List V := [.int (p.1 : Nat), .str (sdS p.2)]
section
variable {prog : Program} {w : World} {A : Around} {s : Shared} {E : Value → Shared → Prop}
def IsPS (h : Heap) (v : Value) (x : Int) (up : Bool) : Prop := ∃ a o t u n, v = .ref a ∧ h.get? a = some o ∧ o.cls = .type "tuple" ∧ o.data = .seq #[.int x t, .str (sdS up) u] n
theorem IsPS.keeps {h h' : Heap} {v : Value} {x : Int} {y : Bool} (p : IsPS h v x y) (k : ∀ b o, h.get? b = some o → o.cls = .type "tuple" → h'.get? b = some o) : IsPS h' v x y := by
  obtain ⟨a, o, t, u, n, e, ho, hc, hd⟩ := p
  exact ⟨a, o, t, u, n, e, k _ _ ho hc, hc, hd⟩
end
set_option Elab.async false
set_option linter.all false
set_option maxRecDepth 100000
set_option maxHeartbeats 4000000
def PD.setL (d : PD) (t : Nat) (v : Int) : PD := ⟨d.L.set (t - 1) v, d.U, d.A, d.B⟩
def PD.setU (d : PD) (t : Nat) (v : Int) : PD := ⟨d.L, d.U.set (t - 1) v, d.A, d.B⟩
theorem PD.Ok.setL {d : PD} (ok : d.Ok) {t : Nat} {v : Int} (h1 : 1 ≤ t) (h2 : t < d.L.length) (h : v ≤ nth d.U (t - 1)) : (d.setL t v).Ok := by
  have lU := ok.lU
  refine ⟨?_, ?_, ?_, ?_, ?_, fun i hi => ?_, fun i hi => ?_, ?_⟩ <;> dsimp only [PD.setL] at * <;> (try rw [List.length_set] at hi) <;> (try rw [List.length_set])
  · exact ok.one
  · exact ok.most
  · exact ok.lU
  · exact ok.lA
  · exact ok.lB
  · have := ok.lu i hi
    by_cases c : i = t - 1
    · subst c
      rw [nth_set_at hi]
      omega
    · rw [nth_set_ne c]
      exact this
  · exact ok.ab i hi
  · rw [nth_set_ne (by omega)]
    exact ok.tot
theorem PD.Ok.setU {d : PD} (ok : d.Ok) {t : Nat} {v : Int} (h1 : 1 ≤ t) (h2 : t < d.L.length) (h : nth d.L (t - 1) ≤ v) : (d.setU t v).Ok := by
  have lU := ok.lU
  refine ⟨?_, ?_, ?_, ?_, ?_, fun i hi => ?_, fun i hi => ?_, ?_⟩ <;> dsimp only [PD.setU] at *
  · exact ok.one
  · exact ok.most
  · rw [List.length_set]
    exact ok.lU
  · exact ok.lA
  · exact ok.lB
  · have := ok.lu i hi
    by_cases c : i = t - 1
    · subst c
      rw [nth_set_at (by omega)]
      omega
    · rw [nth_set_ne c]
      exact this
  · exact ok.ab i hi
  · rw [nth_set_ne (by omega)]
    exact ok.tot
/-- e is d with a bound of the sum at t farther in -/
structure Inn (d e : PD) (t : Nat) : Prop where
  len : e.L.length = d.L.length
  A : e.A = d.A
  B : e.B = d.B
  l : ∀ i, i ≠ t - 1 → nth e.L i = nth d.L i
  u : ∀ i, i ≠ t - 1 → nth e.U i = nth d.U i
  lt : nth d.L (t - 1) ≤ nth e.L (t - 1)
  ut : nth e.U (t - 1) ≤ nth d.U (t - 1)
  t1 : 1 ≤ t
  tn : t < d.L.length
theorem inn_setL {d : PD} {t : Nat} {v : Int} (h1 : 1 ≤ t) (h2 : t < d.L.length) (h : nth d.L (t - 1) ≤ v) : Inn d (d.setL t v) t :=
  ⟨List.length_set, rfl, rfl, fun i hi => nth_set_ne hi, fun i hi => rfl, by show _ ≤ nth (d.L.set (t - 1) v) (t - 1); rw [nth_set_at (by omega)]; exact h, Int.le_refl _, h1, h2⟩
theorem inn_setU {d : PD} (ok : d.Ok) {t : Nat} {v : Int} (h1 : 1 ≤ t) (h2 : t < d.L.length) (h : v ≤ nth d.U (t - 1)) : Inn d (d.setU t v) t :=
  ⟨rfl, rfl, rfl, fun i hi => rfl, fun i hi => nth_set_ne hi, Int.le_refl _, by have := ok.lU; show nth (d.U.set (t - 1) v) (t - 1) ≤ _; rw [nth_set_at (by omega)]; exact h, h1, h2⟩
/-- the other way round: d is the one with the bound farther in -/
theorem inn_outL {d : PD} {t : Nat} {v : Int} (h1 : 1 ≤ t) (h2 : t < d.L.length) (h : v ≤ nth d.L (t - 1)) : Inn (d.setL t v) d t :=
  ⟨List.length_set.symm, rfl, rfl, fun i hi => (nth_set_ne hi).symm, fun i hi => rfl, by show nth (d.L.set (t - 1) v) (t - 1) ≤ _; rw [nth_set_at (by omega)]; exact h, Int.le_refl _, h1, by show t < (d.L.set (t - 1) v).length; rw [List.length_set]; exact h2⟩
theorem inn_outU {d : PD} (ok : d.Ok) {t : Nat} {v : Int} (h1 : 1 ≤ t) (h2 : t < d.L.length) (h : nth d.U (t - 1) ≤ v) : Inn (d.setU t v) d t :=
  ⟨rfl, rfl, rfl, fun i hi => rfl, fun i hi => (nth_set_ne hi).symm, Int.le_refl _, by have := ok.lU; show _ ≤ nth (d.U.set (t - 1) v) (t - 1); rw [nth_set_at (by omega)]; exact h, h1, h2⟩
section
variable {d e : PD} {t : Nat}
theorem loAt1 {d : PD} {t : Nat} (h : 1 ≤ t) : d.lo t = nth d.L (t - 1) := by
  obtain ⟨k, rfl⟩ : ∃ k, t = k + 1 := ⟨t - 1, by omega⟩
  rfl
theorem hiAt1 {d : PD} {t : Nat} (h : 1 ≤ t) : d.hi t = nth d.U (t - 1) := by
  obtain ⟨k, rfl⟩ : ∃ k, t = k + 1 := ⟨t - 1, by omega⟩
  rfl
theorem Inn.lo (r : Inn d e t) {s : Nat} (h : s ≠ t) : e.lo s = d.lo s := by
  have := r.t1
  cases s with
  | zero => rfl
  | succ s => exact r.l s (by omega)
theorem Inn.hi (r : Inn d e t) {s : Nat} (h : s ≠ t) : e.hi s = d.hi s := by
  have := r.t1
  cases s with
  | zero => rfl
  | succ s => exact r.u s (by omega)
theorem Inn.row (r : Inn d e t) {X : Nat → Int} : e.RowX X ↔ d.RowX X ∧ e.lo t ≤ X t ∧ X t ≤ e.hi t := by
  have e1 : e.a = d.a := by unfold PD.a; rw [r.A]
  have e2 : e.b = d.b := by unfold PD.b; rw [r.B]
  have tn := r.tn
  have ll := r.lt
  have uu := r.ut
  have g1 := loAt1 (d := d) r.t1
  have g2 := hiAt1 (d := d) r.t1
  have g3 := loAt1 (d := e) r.t1
  have g4 := hiAt1 (d := e) r.t1
  unfold PD.RowX
  rw [r.len, e1, e2]
  constructor
  · intro h
    refine ⟨⟨h.zero, fun s hs => ?_, fun s hs => ?_, h.least, h.most⟩, h.low t (by omega), h.high t (by omega)⟩
    · by_cases c : s = t
      · have := h.low s hs
        subst c
        omega
      · rw [← r.lo c]
        exact h.low s hs
    · by_cases c : s = t
      · have := h.high s hs
        subst c
        omega
      · rw [← r.hi c]
        exact h.high s hs
  · rintro ⟨h, h1, h2⟩
    refine ⟨h.zero, fun s hs => ?_, fun s hs => ?_, h.least, h.most⟩
    · by_cases c : s = t
      · subst c
        exact h1
      · rw [r.lo c]
        exact h.low s hs
    · by_cases c : s = t
      · subst c
        exact h2
      · rw [r.hi c]
        exact h.high s hs
/-- the bound bars no best row: the best rows stay -/
theorem Inn.same (r : Inn d e t) (ok : d.Ok) (ok2 : e.Ok) (has : d.Has) (h : ∀ X, d.BestX X → e.lo t ≤ X t ∧ X t ≤ e.hi t) (Y : Nat → Int) : e.BestX Y ↔ d.BestX Y := by
  obtain ⟨X, b⟩ := has.best
  have rx : e.RowX X := r.row.mpr ⟨b.row, h X b⟩
  have l := r.len
  constructor
  · intro y
    have ry := (r.row.mp y.row).1
    have m := best_min ok2 y rx
    rw [l] at m
    exact best_of_sq ok b ry m
  · intro y
    have ry : e.RowX Y := r.row.mpr ⟨y.row, h Y y⟩
    obtain ⟨W, bW⟩ : ∃ W, e.BestX W := (show e.Has from ⟨X, rx⟩).best
    have m := best_min ok y (r.row.mp bW.row).1
    rw [← l] at m
    exact best_of_sq ok2 bW ry m
theorem TopBest.to (b : ∀ Y, e.BestX Y ↔ d.BestX Y) (l : e.L.length = d.L.length) {ns : List Int} (h : TopBest d ns) : TopBest e ns :=
  ⟨h.len.trans l.symm, (b _).mpr h.best, fun Y y t ht => h.top Y ((b Y).mp y) t (by omega)⟩
theorem BotBest.to (b : ∀ Y, e.BestX Y ↔ d.BestX Y) (l : e.L.length = d.L.length) {ns : List Int} (h : BotBest d ns) : BotBest e ns :=
  ⟨h.len.trans l.symm, (b _).mpr h.best, fun Y y t ht => h.bot Y ((b Y).mp y) t (by omega)⟩
theorem Inn.bd (r : Inn d e t) (b : d.Bd) : e.Bd := fun i hi => by
  have e1 : e.a = d.a := by unfold PD.a; rw [r.A]
  have e2 : e.b = d.b := by unfold PD.b; rw [r.B]
  rw [e1, e2]
  exact b i (by rw [← r.len]; exact hi)
theorem Inn.bd' (r : Inn d e t) (b : e.Bd) : d.Bd := fun i hi => by
  have e1 : e.a = d.a := by unfold PD.a; rw [r.A]
  have e2 : e.b = d.b := by unfold PD.b; rw [r.B]
  rw [← e1, ← e2]
  exact b i (by rw [r.len]; exact hi)
end
def lowV (d : PD) (t : Nat) : Int := min (min (nth d.L (t - 1)) (d.A.take t).sum) (d.tot - (d.B.drop t).sum)
def highV (d : PD) (t : Nat) : Int := max (max (nth d.U (t - 1)) (d.B.take t).sum) (d.tot - (d.A.drop t).sum)
/-- the plan loosened: true for high -/
def PD.loose (d : PD) (t : Nat) (up : Bool) : PD := if up = true then d.setU t (highV d t) else d.setL t (lowV d t)
section
variable {d : PD} {t : Nat} {up : Bool}
theorem lowV_le : lowV d t ≤ nth d.L (t - 1) := by unfold lowV; omega
theorem highV_ge : nth d.U (t - 1) ≤ highV d t := by unfold highV; omega
theorem PD.Ok.loose (ok : d.Ok) (h1 : 1 ≤ t) (h2 : t < d.L.length) : (d.loose t up).Ok := by
  have g := ok.lu (t - 1) (by omega)
  cases up with
  | true => exact ok.setU h1 h2 (by have := highV_ge (d := d) (t := t); omega)
  | false => exact ok.setL h1 h2 (by have := lowV_le (d := d) (t := t); omega)
theorem inn_loose (ok : d.Ok) (h1 : 1 ≤ t) (h2 : t < d.L.length) : Inn (d.loose t up) d t := by
  cases up with
  | true => exact inn_outU ok h1 h2 highV_ge
  | false => exact inn_outL h1 h2 lowV_le
theorem loose_has (ok : d.Ok) (h1 : 1 ≤ t) (h2 : t < d.L.length) (has : d.Has) : (d.loose t up).Has := by
  obtain ⟨X, r⟩ := has
  exact ⟨X, ((inn_loose ok h1 h2).row.mp r).1⟩
/-- needless: the loosened plan has the same best rows -/
def NB (d : PD) (t : Nat) (up : Bool) : Prop := ∀ Y, (d.loose t up).BestX Y ↔ d.BestX Y
end
/-- idle: the loosened plan has best rows with the same entries -/
def IDL (d : PD) (t : Nat) (up : Bool) : Prop := ∃ ns ms, ns.length = d.L.length ∧ ms.length = (d.loose t up).L.length ∧ d.BestX (sumX ns) ∧ (d.loose t up).BestX (sumX ms) ∧ ns.Perm ms
theorem idl_iff {d : PD} {t : Nat} {up : Bool} (ok : d.Ok) (okl : (d.loose t up).Ok) {ns ms : List Int} (l1 : ns.length = d.L.length) (l2 : ms.length = (d.loose t up).L.length) (b1 : d.BestX (sumX ns)) (b2 : (d.loose t up).BestX (sumX ms)) : IDL d t up ↔ ns.Perm ms :=
  ⟨fun ⟨n2, m2, k1, k2, c1, c2, p⟩ => ((best_perm ok l1 k1 b1 c1).trans p).trans (best_perm okl k2 l2 c2 b2), fun p => ⟨ns, ms, l1, l2, b1, b2, p⟩⟩
theorem sort_perm {ns ms s1 s2 : List Int} (p1 : s1.Perm ns) (p2 : s2.Perm ms) (o1 : s1.Pairwise (· ≤ ·)) (o2 : s2.Pairwise (· ≤ ·)) : s1 = s2 ↔ ns.Perm ms :=
  ⟨fun e => p1.symm.trans (e ▸ p2), fun p => sorted_uniq ((p1.trans p).trans p2.symm) o1 o2⟩
def sidesAt (i : Nat) : List (Nat × Bool) := [(i + 1, true), (i + 1, false)]
def sidesTo (k : Nat) : List (Nat × Bool) := (List.range k).flatMap sidesAt
theorem sidesTo_succ (k : Nat) : sidesTo (k + 1) = sidesTo k ++ sidesAt k := by
  unfold sidesTo
  rw [List.range_succ, List.flatMap_append, List.flatMap_cons, List.flatMap_nil, List.append_nil]
theorem sidesTo_len : ∀ k, (sidesTo k).length = 2 * k
  | 0 => rfl
  | k + 1 => by
    rw [sidesTo_succ, List.length_append, sidesTo_len k]
    show 2 * k + 2 = _
    omega
theorem sidesTo_mem {k : Nat} {p : Nat × Bool} : p ∈ sidesTo k ↔ 1 ≤ p.1 ∧ p.1 ≤ k := by
  unfold sidesTo
  rw [List.mem_flatMap]
  constructor
  · rintro ⟨i, hi, h⟩
    have := List.mem_range.mp hi
    rcases List.mem_cons.mp h with rfl | h
    · exact ⟨by show 1 ≤ i + 1; omega, by show i + 1 ≤ k; omega⟩
    · obtain rfl := List.mem_singleton.mp h
      exact ⟨by show 1 ≤ i + 1; omega, by show i + 1 ≤ k; omega⟩
  · rintro ⟨h1, h2⟩
    obtain ⟨t, up⟩ := p
    have h1 : 1 ≤ t := h1
    have h2 : t ≤ k := h2
    refine ⟨t - 1, List.mem_range.mpr (by omega), ?_⟩
    have e : t - 1 + 1 = t := by omega
    unfold sidesAt
    rw [e]
    cases up
    · exact .tail _ (.head _)
    · exact .head _
set_option Elab.async false
set_option linter.all false
set_option maxRecDepth 100000
set_option maxHeartbeats 4000000
set_option exponentiation.threshold 3000
section
variable {J : It} {n : Nat} {GG : Hp → Prop} {Y : Nat → Hp → V → Hp → Prop} {g : TG} {tt : TT} {te : TE} {vs : List Nat} {σ : L2.St} {Q : VK}
/-- an inner loop of new tuples -/
theorem in1_tl {H0 H1 : Hp} {D : Addr} {Nx : Hp → Prop} (w : Walk J n GG Y) (f : Nat → List V) {ts0 : List Addr} {acc : List (List V)} (hD0 : H0 D = none) (hF : Fr [] H0 H1) (hD : H1 D = some (.lst (ts0.map V.ref))) (tl : TL H1 ts0 acc) (hn : acc.length + n ≤ 100000) (hG : ∀ H', Fr [D] H1 H' → GG H') (hY : ∀ i H' x H'', Y i H' x H'' → Fr [] H' H'')
    (he : ∀ i x H' H'' (R : VK), i < n → Fr [] H0 H' → Fr [D] H1 H' → Y i H' x H'' → (∀ t H3, Fr [] H'' H3 → H3 t = none → R (.ref t) (upd H3 t (.tup (f i)))) → g x (wipe σ vs) H'' fun σ2 H2 => wipe σ2 vs = wipe σ vs ∧ te σ2 H2 R)
    (hd : ∀ ts H', Fr [] H0 H' → H' D = some (.lst (ts.map V.ref)) → TL H' ts (acc ++ (List.range n).map f) → Nx H') : In1J g tYes te vs σ D Nx J H1 := by
  refine in1_it w (fun i H' => i ≤ n ∧ Fr [D] H1 H' ∧ Fr [] H0 H' ∧ ∃ ts : List Addr, H' D = some (.lst (ts.map V.ref)) ∧ TL H' ts (acc ++ (List.range i).map f)) ⟨Nat.zero_le _, Fr.refl _, hF, ts0, hD, by rw [List.range_zero, List.map_nil, List.append_nil]; exact tl⟩ (fun i H' _ p => hG H' p.2.1) (fun i x H' H'' hi p y => ?_) (fun H' p => by
    obtain ⟨_, p1, p2, ts, p3, p4⟩ := p
    exact hd ts H' p2 p3 p4)
  obtain ⟨p0, p1, p2, ts, p3, p4⟩ := p
  have hf := hY i H' x H'' y
  refine he i x H' H'' _ hi p2 p1 y fun t H3 e3 ht => ?_
  have e4 : Fr [] H' H3 := hf.trans e3
  have d3 := e4 _ _ (fun z => nomatch z) p3
  have ne : D ≠ t := fun e => by rw [e, ht] at d3; cases d3
  have d4 : (upd H3 t (.tup (f i))) D = some (.lst (ts.map V.ref)) := by rw [upd_ne ne]; exact d3
  have t3 : TL H3 ts (acc ++ (List.range i).map f) := p4.fr fun a o h => e4 a o (fun z => nomatch z) h
  have t4 := ((t3.more (o := .tup (f i)) ht).add (v := f i) upd_same).put (o := .lst (ts.map V.ref ++ [.ref t])) d4
  have len : ts.length = acc.length + i := by
    have := p4.1
    rw [List.length_append, List.length_map, List.length_range] at this
    exact this
  refine ⟨_, d4, ?_, hi, ?_, ?_, ts ++ [t], ?_, ?_⟩
  · rw [List.length_map]
    exact Nat.lt_of_lt_of_le (show ts.length < 100001 by omega) (by decide)
  · have e5 : Fr [D] H1 (upd H3 t (.tup (f i))) := p1.trans ((e4.up0).new ht)
    intro a o ha h
    rw [upd_ne (fun z => ha (by rw [z]; exact List.mem_cons_self))]
    exact e5 a o ha h
  · exact (p2.trans (e4.new ht)).mut hD0
  · rw [upd_same, List.map_append]
    rfl
  · rw [List.range_succ, List.map_append, ← List.append_assoc]
    exact t4
/-- two loops of new tuples -/
theorem lc2_tl {H1 : Hp} {wi1 : TI} {g1 : TG} {vs1 : List Nat} (w : Walk J n GG Y) (fs : Nat → List (List V)) (hG : ∀ H', Fr [] H1 H' → GG H') (hY : ∀ i H' x H'', Y i H' x H'' → Fr [] H' H'')
    (he : ∀ i x H' H'' (D : Addr) (ts : List Addr) (Nx : Hp → Prop), i < n → Fr [] H1 H' → Y i H' x H'' → Fr [] H1 H'' → H1 D = none → H'' D = some (.lst (ts.map V.ref)) → TL H'' ts ((List.range i).flatMap fs) → (∀ ts' H4, Fr [] H1 H4 → H4 D = some (.lst (ts'.map V.ref)) → TL H4 ts' ((List.range i).flatMap fs ++ fs i) → Nx H4) →
      g x (wipe σ vs) H'' fun σ2 H2 => wipe σ2 vs = wipe σ vs ∧ wi1 σ2 H2 (In1J g1 tYes te vs1 σ2 D Nx))
    (hd : ∀ D ts H', H1 D = none → Fr [] H1 H' → H' D = some (.lst (ts.map V.ref)) → TL H' ts ((List.range n).flatMap fs) → Q (.ref D) H') : Lc2J g tYes wi1 g1 tYes te vs vs1 σ Q J H1 := by
  intro D hD
  refine ⟨fun i m H => m = n - i ∧ i ≤ n ∧ Fr [] H1 H ∧ ∃ ts : List Addr, H D = some (.lst (ts.map V.ref)) ∧ TL H ts ((List.range i).flatMap fs), ⟨n, by simp, Nat.zero_le _, (Fr.refl H1).mut hD, [], by rw [upd_same]; rfl, TL.nil _⟩, ?_⟩
  rintro i m H ⟨rfl, hi, p1, ts, p2, p3⟩
  have q := hG H p1
  by_cases hlt : i < n
  · refine .inr ⟨w.goes i H hlt q, fun H' => Fr [] H1 H' ∧ ∃ ts : List Addr, H' D = some (.lst (ts.map V.ref)) ∧ TL H' ts ((List.range (i + 1)).flatMap fs), fun H' p' => ⟨n - (i + 1), by omega, rfl, hlt, p'⟩, fun x H' y => ?_⟩
    have yy := w.yields i H x H' hlt q y
    have f1 := hY i H x H' yy
    have := he i x H H' D ts (fun H' => Fr [] H1 H' ∧ ∃ ts : List Addr, H' D = some (.lst (ts.map V.ref)) ∧ TL H' ts ((List.range (i + 1)).flatMap fs)) hlt p1 yy (p1.trans f1) hD (f1 _ _ (fun z => nomatch z) p2) (p3.fr fun a o h => f1 a o (fun z => nomatch z) h) (fun ts' H4 a b c => ⟨a, ts', b, by
      rw [List.range_succ, List.flatMap_append, List.flatMap_cons, List.flatMap_nil, List.append_nil]
      exact c⟩)
    exact this
  · have e : i = n := by omega
    subst e
    exact .inl ⟨w.stops H q, hd D ts H hD p1 p2 p3⟩
end
theorem filt_list {α β : Type} (x : α) (q : α → Bool) (g : α → β) : ∀ l : List α, (((List.range l.length).filter fun i => q (l.getD i x)).map fun i => g (l.getD i x)) = (l.filter q).map g := by
  intro l
  have e : l = (List.range l.length).map fun i => l.getD i x := by
    refine List.ext_getElem (by simp) fun i h1 h2 => ?_
    simp [List.getD_eq_getElem?_getD, List.getElem?_eq_getElem h1]
  conv => rhs; rw [e]
  rw [List.filter_map, List.map_map]
  rfl
section
variable {P : Program} {w : World} {K : PySem.W.Frag} {mg : Str → Option Value} {base : Heap}
theorem sdS_low {up : Bool} : decide (V.str (sdS up) = V.str "low") = !up := by cases up <;> decide +kernel
def sp_check_bound (K : PySem.W.Frag) : Sp := fun vs H Q _ => ∃ (p : Addr) (d : PD) (t : Nat) (up : Bool), vs = [.ref p, .int (t : Nat), .str (sdS up)] ∧ PlanAt K [] H p d ∧ d.Ok ∧ (1 ≤ t ∧ t < d.L.length) ∧
  ∀ H', Fr [] H H' → Q .non H'
theorem k_check_bound (T : Tx fa fn K mg base) : Fk P w K mg base "check_bound" ["plan", "time", "side"] 3 (sp_check_bound K) s_check_bound "check_bound" := by
  refine T.fk 15 29 (q := "check_bound") (st := s_check_bound) sc_check_bound (fun _ _ _ _ _ _ us hl => match us, hl with | [_, _, _], _ => rfl) (fun vs H Q E h => ?_) (fun cdv A outer s H vs Q E hr h => ?_)
  · obtain ⟨p, d, t, up, rfl, _⟩ := h
    rfl
  · obtain ⟨p, d, t, up, rfl, pd, ok, ⟨c1, c2⟩, k⟩ := h
    have pd0 := pd
    have one := ok.one
    have most := ok.most
    refine ⟨_, (pss_cons (ps_if (pt_not (pt_val (pe_f (k_is_between T) hr (pa_cons (pv 1) (pa_cons pe_int (pa_cons (pe_op op_sub (pe_callB (cr_lenP (k_Plan___len__ T) (hr.mono (by decide))) (by rfl) (T.fr 6) (by decide +kernel) (pa_cons (pv 0) pa_nil)) pe_int) pa_nil)))))) (pss_one ps_never) pss_nil)
      (pss_one (ps_if (pt_cmpR op_notIn_seq (pv 2) (pe_tup (pa_cons pe_str (pa_cons pe_str pa_nil))) (by rfl)) (pss_one ps_never) pss_nil))), ?_⟩
    walk_at "ev0"
    refine r_lenD pd0 (by omega) ?_
    walk_at "ev"
    refine between (by omega) (by omega) ?_
    walk_at "ev"
    intro u1 k1
    have z1 := (Z.start0 H).alloc (.tup [.str "low", .str "high"]) k1
    refine r_notIn (b := true) (.inr (SqT.of upd_same)) (by rfl) (by cases up <;> rfl) (by cases up <;> decide +kernel) ?_
    walk_at "ev"
    exact k _ (z1.fr0 (by simp))
def sp_Plan_loosened (K : PySem.W.Frag) : Sp := fun vs H Q _ => ∃ (p : Addr) (d : PD) (t : Nat) (up : Bool), vs = [.ref p, .int (t : Nat), .str (sdS up)] ∧ PlanAt K [] H p d ∧ d.Ok ∧ (1 ≤ t ∧ t < d.L.length) ∧
  ∀ r H', Fr [] H H' → NewP K H H' r (d.loose t up) → Q (.ref r) H'
theorem k_Plan_loosened (T : Tx fa fn K mg base) : Mth P w K mg base (He.ga K "Plan") "loosened" ["self", "time", "side"] 5 (sp_Plan_loosened K) s_Plan_loosened "Plan.loosened" := by
  refine T.mth 16 31 19 (q := "Plan.loosened") (st := s_Plan_loosened) sc_Plan_loosened (fun _ _ _ _ _ _ us hl => match us, hl with | [_, _, _], _ => rfl) (fun vs H Q E h => ?_) (fun cdv A outer s H vs Q E hr h => ?_)
  · obtain ⟨p, d, t, up, rfl, _⟩ := h
    rfl
  · obtain ⟨p, d, t, up, rfl, pd, ok, ⟨c1, c2⟩, k⟩ := h
    have pd0 := pd
    obtain ⟨dx, l1, l2, l3, l4, h0, ⟨h1, h2, h3, h4⟩, _⟩ := pd.ex
    have one := ok.one
    have most := ok.most
    have lU := ok.lU
    have lA := ok.lA
    have lB := ok.lB
    refine ⟨_, (pss_cons (ps_expr (pe_f (k_check_bound T) hr (pa_cons (pv 0) (pa_cons (pv 1) (pa_cons (pv 2) pa_nil)))))
      (pss_cons (ps_par3 (i := 3) (j := 4) (l := 5) (by rfl) sc_Plan_loosened.nd rfl rfl rfl (by decide) (by decide) (by decide) rfl rfl rfl (pa_cons (pe_pr (pv 0) (k_Plan_low T) hr) (pa_cons (pe_pr (pv 0) (k_Plan_high T) hr) (pa_cons (pe_op op_sub (pv 1) pe_int) pa_nil))) (by rfl))
      (pss_cons (ps_if (pt_cmpR op_eq (pv 2) pe_str (nomark _)) (pss_one (ps_asg (pe_callB (call_min3Nu rfl) (by rfl) (T.fr 15) (by decide +kernel) (pa_cons (pe_ix ix_list (pv 3) (pv 5) (fun _ _ => rfl)) (pa_cons (pe_callB (cr_sum rfl) (by rfl) (T.fr 30) (by decide +kernel) (pa_cons (pe_slice sl_list (pe_fld (pv 0) rfl) po_none (po_some (pv 1))) pa_nil)) (pa_cons (pe_op op_sub (pe_pr (pv 0) (k_Plan_total T) hr) (pe_callB (cr_sum rfl) (by rfl) (T.fr 30) (by decide +kernel) (pa_cons (pe_slice sl_list (pe_fld (pv 0) rfl) (po_some (pv 1)) po_none) pa_nil))) pa_nil)))) (pg_sub (pv 3) (pv 5) set_list))) (pss_one (ps_asg (pe_callB (call_max3Nu rfl) (by rfl) (T.fr 16) (by decide +kernel) (pa_cons (pe_ix ix_list (pv 4) (pv 5) (fun _ _ => rfl)) (pa_cons (pe_callB (cr_sum rfl) (by rfl) (T.fr 30) (by decide +kernel) (pa_cons (pe_slice sl_list (pe_fld (pv 0) rfl) po_none (po_some (pv 1))) pa_nil)) (pa_cons (pe_op op_sub (pe_pr (pv 0) (k_Plan_total T) hr) (pe_callB (cr_sum rfl) (by rfl) (T.fr 30) (by decide +kernel) (pa_cons (pe_slice sl_list (pe_fld (pv 0) rfl) (po_some (pv 1)) po_none) pa_nil))) pa_nil)))) (pg_sub (pv 4) (pv 5) set_list))))
      (pss_one (ps_ret (pe_mk (k_Plan___init__ T) (T.glo 27) hr (pa_cons (pv 3) (pa_cons (pv 4) (pa_cons (pe_fld (pv 0) rfl) (pa_cons (pe_fld (pv 0) rfl) pa_nil)))))))))), ?_⟩
    walk_at "ev0"
    refine ⟨p, d, t, up, rfl, pd0, ok, ⟨c1, c2⟩, fun H1 f1 => ?_⟩
    have z1 := (Z.start0 H).same f1
    walk_at "ev"
    have g0 := z1.keep h0 (by simp)
    refine r_exp g0 ⟨p, d, rfl, pd0.mono (z1.fr0 (by simp)), fun s1 k2 => ?_⟩
    have z2 := z1.alloc (.lst (d.L.map V.int)) k2
    have g0 := z2.keep h0 (by simp)
    walk_at "ev"
    refine r_exp g0 ⟨p, d, rfl, pd0.mono (z2.fr0 (by simp)), fun s2 k3 => ?_⟩
    have z3 := z2.alloc (.lst (d.U.map V.int)) k3
    walk_at "ev"
    rw [sdS_low]
    cases up with
    | false =>
      rw [Bool.not_false]
      walk_at "ev"
      refine r_at (atN1 c1 (by omega)) ?_
      walk_at "ev"
      have g0 := z3.keep h0 (by simp)
      have gx := z3.keep h3 (by simp)
      refine r_least T g0 ?_
      walk_at "ev"
      rw [cut_uptoN (by omega)]
      intro s4 k4
      have z4 := z3.alloc (.lst ((d.A.take t).map V.int)) k4
      walk_at "ev"
      have g0 := z4.keep h0 (by simp)
      have gy := z4.keep h4 (by simp)
      refine r_exp g0 ⟨p, d, rfl, pd0.mono (z4.fr0 (by simp)), one, ?_⟩
      walk_at "ev"
      refine r_most T g0 ?_
      walk_at "ev"
      rw [cut_fromN (by omega)]
      intro s5 k5
      have z5 := z4.alloc (.lst ((d.B.drop t).map V.int)) k5
      walk_at "ev"
      refine r_min3 rfl ?_
      walk_at "ev"
      refine r_ixn (ixN_m1 c1 (by rw [List.length_map]; omega)) ?_
      have z6 := z5.set 3 (.lst ((d.L.map V.int).set (t - 1) (.int (lowV d t)))) rfl (.inr rfl)
      have g0 := z6.keep h0 (by simp)
      walk_at "ev"
      refine r_least T g0 ?_
      walk_at "ev"
      refine r_most T g0 ?_
      have f6 := z6.fr0 (by simp)
      refine r_plan (d := d.loose t false) (ok.loose c1 c2) ((z6.get (.tail _ (.tail _ (.tail _ (.head _))))).trans (by rw [← List.map_set] <;> rfl)) (z6.get (.tail _ (.tail _ (.head _)))) (f6 _ _ nin h3) (f6 _ _ nin h4) fun q H5 f n => ?_
      exact k q H5 (f6.trans f) (n.fwd f6)
    | true =>
      rw [Bool.not_true]
      walk_at "ev"
      refine r_at (atN1 c1 (by omega)) ?_
      walk_at "ev"
      have g0 := z3.keep h0 (by simp)
      have gx := z3.keep h4 (by simp)
      refine r_most T g0 ?_
      walk_at "ev"
      rw [cut_uptoN (by omega)]
      intro s4 k4
      have z4 := z3.alloc (.lst ((d.B.take t).map V.int)) k4
      walk_at "ev"
      have g0 := z4.keep h0 (by simp)
      have gy := z4.keep h3 (by simp)
      refine r_exp g0 ⟨p, d, rfl, pd0.mono (z4.fr0 (by simp)), one, ?_⟩
      walk_at "ev"
      refine r_least T g0 ?_
      walk_at "ev"
      rw [cut_fromN (by omega)]
      intro s5 k5
      have z5 := z4.alloc (.lst ((d.A.drop t).map V.int)) k5
      walk_at "ev"
      refine r_max3 rfl ?_
      walk_at "ev"
      refine r_ixn (ixN_m1 c1 (by rw [List.length_map]; omega)) ?_
      have z6 := z5.set 2 (.lst ((d.U.map V.int).set (t - 1) (.int (highV d t)))) rfl (.inr rfl)
      have g0 := z6.keep h0 (by simp)
      walk_at "ev"
      refine r_least T g0 ?_
      walk_at "ev"
      refine r_most T g0 ?_
      have f6 := z6.fr0 (by simp)
      refine r_plan (d := d.loose t true) (ok.loose c1 c2) (z6.get (.tail _ (.tail _ (.tail _ (.head _))))) ((z6.get (.tail _ (.tail _ (.head _)))).trans (by rw [← List.map_set] <;> rfl)) (f6 _ _ nin h3) (f6 _ _ nin h4) fun q H5 f n => ?_
      exact k q H5 (f6.trans f) (n.fwd f6)
end
set_option Elab.async false
set_option linter.all false
set_option maxRecDepth 100000
set_option maxHeartbeats 4000000
set_option exponentiation.threshold 3000
/-- how far inside the best rows of a plan are, at a bound of another one -/
def IsRoom (d e : PD) (t : Nat) (up : Bool) (r : Int) : Prop := if up = true then ∃ ns, TopBest e ns ∧ r = nth d.U (t - 1) - sumX ns t else ∃ bs, BotBest e bs ∧ r = sumX bs t - nth d.L (t - 1)
theorem room_nb {d : PD} {t : Nat} {up : Bool} (ok : d.Ok) (h1 : 1 ≤ t) (h2 : t < d.L.length) (has : d.Has) {r : Int} (h : IsRoom d (d.loose t up) t up r) : 0 ≤ r ↔ NB d t up := by
  have inn := inn_loose (up := up) ok h1 h2
  have ll := inn.len
  have okl := ok.loose (up := up) h1 h2
  have g1 := loAt1 (d := d) h1
  have g2 := hiAt1 (d := d) h1
  cases up with
  | true =>
    obtain ⟨ns, tb, rfl⟩ := h
    constructor
    · intro h
      refine fun Y => (inn.same okl ok (loose_has ok h1 h2 has) (fun X x => ?_) Y).symm
      have x1 := x.row.low t (by omega)
      have e : (d.loose t true).lo t = d.lo t := by rw [loAt1 h1, loAt1 h1]; rfl
      have := tb.top X x t (by omega)
      omega
    · intro h
      have y1 := ((h _).mp tb.best).row.high t (by omega)
      omega
  | false =>
    obtain ⟨bs, bb, rfl⟩ := h
    constructor
    · intro h
      refine fun Y => (inn.same okl ok (loose_has ok h1 h2 has) (fun X x => ?_) Y).symm
      have x2 := x.row.high t (by omega)
      have e : (d.loose t false).hi t = d.hi t := by rw [hiAt1 h1, hiAt1 h1]; rfl
      have := bb.bot X x t (by omega)
      omega
    · intro h
      have y2 := ((h _).mp bb.best).row.low t (by omega)
      omega
theorem hs_at {ns : List Int} {t : Nat} (h1 : 1 ≤ t) (h2 : t ≤ ns.length) : nth (heights ns) (t - 1) = sumX ns t := by
  have := hs_nth (ns := ns) (i := t - 1) (by omega)
  rw [this]
  congr 1
  omega
section
variable {P : Program} {w : World} {K : PySem.W.Frag} {mg : Str → Option Value} {base : Heap}
def sp__room_within (K : PySem.W.Frag) : Sp := fun vs H Q _ => ∃ (p q : Addr) (d e : PD) (t : Nat) (up : Bool), vs = [.ref p, .ref q, .int (t : Nat), .str (sdS up)] ∧ PlanAt K [] H p d ∧ d.Ok ∧ PlanAt K [] H q e ∧ e.Ok ∧ e.Has ∧ e.Bd ∧ e.L.length = d.L.length ∧ (1 ≤ t ∧ t ≤ d.L.length) ∧
  ∀ r H', Fr [] H H' → IsRoom d e t up r → Q (.int r) H'
theorem k__room_within (T : Tx fa fn K mg base) : Fk P w K mg base "_room_within" ["plan", "other", "time", "side"] 9 (sp__room_within K) s__room_within "_room_within" := by
  refine T.fk 34 50 (q := "_room_within") (st := s__room_within) sc__room_within (fun _ _ _ _ _ _ us hl => match us, hl with | [_, _, _, _], _ => rfl) (fun vs H Q E h => ?_) (fun cdv A outer s H vs Q E hr h => ?_)
  · obtain ⟨p, q, d, e, t, up, rfl, _⟩ := h
    rfl
  · obtain ⟨p, q, d, e, t, up, rfl, pd, ok, pe, ok2, has, bd, ll, ⟨c1, c2⟩, k⟩ := h
    have one := ok.one
    have most := ok.most
    have lU := ok.lU
    refine ⟨_, (pss_cons (ps_if (pt_cmpR op_eq (pv 3) pe_str (nomark _)) (pss_one (ps_ret (pe_op op_sub (pe_ix ix_list (pe_f (k_sums_of T) hr (pa_cons (pe_f (k_latest_row T) hr (pa_cons (pv 1) pa_nil)) pa_nil)) (pe_op op_sub (pv 2) pe_int) (fun _ _ => rfl)) (pe_ix ix_list (pe_pr (pv 0) (k_Plan_low T) hr) (pe_op op_sub (pv 2) pe_int) (fun _ _ => rfl))))) pss_nil)
      (pss_one (ps_ret (pe_op op_sub (pe_ix ix_list (pe_pr (pv 0) (k_Plan_high T) hr) (pe_op op_sub (pv 2) pe_int) (fun _ _ => rfl)) (pe_ix ix_list (pe_f (k_sums_of T) hr (pa_cons (pe_f (k_best_row T) hr (pa_cons (pv 1) pa_nil)) pa_nil)) (pe_op op_sub (pv 2) pe_int) (fun _ _ => rfl)))))), ?_⟩
    walk_at "ev0"
    rw [sdS_low]
    cases up with
    | false =>
      rw [Bool.not_false]
      walk_at "ev"
      refine ⟨q, e, rfl, pe, ok2, has, bd, fun r1 H1 bs h1 f1 g1 bb => ?_⟩
      have bl := bb.len
      walk_at "ev"
      refine ⟨r1, bs, rfl, g1, by omega, fun r2 H2 h2 f2 g2 => ?_⟩
      have lh : (heights bs).length = bs.length := by unfold heights; rw [hsTo_len]
      walk_at "ev"
      refine r_at (atN1 c1 (by omega)) ?_
      walk_at "ev"
      refine r_pl (pd.mono (f1.trans f2)) fun s3 k3 => ?_
      have z3 := (Z.start0 H2).alloc (.lst (d.L.map V.int)) k3
      walk_at "ev"
      refine r_at (atN1 c1 (by omega)) ?_
      walk_at "ev"
      rw [hs_at c1 (by omega)]
      exact k _ _ ((f1.trans f2).trans (z3.fr0 (by simp))) ⟨bs, bb, rfl⟩
    | true =>
      rw [Bool.not_true]
      walk_at "ev"
      refine r_pl pd fun s3 k3 => ?_
      have z3 := (Z.start0 H).alloc (.lst (d.U.map V.int)) k3
      have f3 := z3.fr0 (by simp)
      walk_at "ev"
      refine r_at (atN1 c1 (by omega)) ?_
      walk_at "ev"
      refine ⟨q, e, rfl, pe.mono f3, ok2, has, bd, fun r1 H1 bs h1 f1 g1 bb => ?_⟩
      have bl := bb.len
      walk_at "ev"
      refine ⟨r1, bs, rfl, g1, by omega, fun r2 H2 h2 f2 g2 => ?_⟩
      have lh : (heights bs).length = bs.length := by unfold heights; rw [hsTo_len]
      walk_at "ev"
      refine r_at (atN1 c1 (by omega)) ?_
      walk_at "ev"
      rw [hs_at c1 (by omega)]
      exact k _ _ ((f3.trans f1).trans f2) ⟨bs, bb, rfl⟩
def sp_room_of (K : PySem.W.Frag) : Sp := fun vs H Q _ => ∃ (p : Addr) (d : PD) (t : Nat) (up : Bool), vs = [.ref p, .int (t : Nat), .str (sdS up)] ∧ PlanAt K [] H p d ∧ d.Ok ∧ d.Has ∧ d.Bd ∧ (1 ≤ t ∧ t < d.L.length) ∧
  ∀ r H', Fr [] H H' → IsRoom d d t up r → Q (.int r) H'
theorem k_room_of (T : Tx fa fn K mg base) : Fk P w K mg base "room_of" ["plan", "time", "side"] 10 (sp_room_of K) s_room_of "room_of" := by
  refine T.fk 35 51 (q := "room_of") (st := s_room_of) sc_room_of (fun _ _ _ _ _ _ us hl => match us, hl with | [_, _, _], _ => rfl) (fun vs H Q E h => ?_) (fun cdv A outer s H vs Q E hr h => ?_)
  · obtain ⟨p, d, t, up, rfl, _⟩ := h
    rfl
  · obtain ⟨p, d, t, up, rfl, pd, ok, has, bd, ⟨c1, c2⟩, k⟩ := h
    refine ⟨_, (pss_cons (ps_expr (pe_f (k_check_bound T) hr (pa_cons (pv 0) (pa_cons (pv 1) (pa_cons (pv 2) pa_nil)))))
      (pss_one (ps_ret (pe_f (k__room_within T) hr (pa_cons (pv 0) (pa_cons (pv 0) (pa_cons (pv 1) (pa_cons (pv 2) pa_nil)))))))), ?_⟩
    walk_at "ev0"
    refine ⟨p, d, t, up, rfl, pd, ok, ⟨c1, c2⟩, fun H1 f1 => ?_⟩
    walk_at "ev"
    refine ⟨p, p, d, d, t, up, rfl, pd.mono f1, ok, pd.mono f1, ok, has, bd, rfl, ⟨c1, by omega⟩, fun r H2 f2 g => ?_⟩
    exact k r H2 (f1.trans f2) g
/-- the plan with a bound moved -/
def PD.moved (d : PD) (t : Nat) (up : Bool) (y : Int) : PD := if up = true then d.setU t (nth d.U (t - 1) + y) else d.setL t (nth d.L (t - 1) + y)
def sp_moved_bound (K : PySem.W.Frag) : Sp := fun vs H Q _ => ∃ (p : Addr) (d : PD) (t : Nat) (up : Bool) (y : Int), vs = [.ref p, .int (t : Nat), .str (sdS up), .int y] ∧ PlanAt K [] H p d ∧ d.Ok ∧ (1 ≤ t ∧ t < d.L.length) ∧ (d.moved t up y).Ok ∧
  ∀ q H', Fr [] H H' → NewP K H H' q (d.moved t up y) → Q (.ref q) H'
theorem k_moved_bound (T : Tx fa fn K mg base) : Fk P w K mg base "moved_bound" ["plan", "time", "side", "by"] 5 (sp_moved_bound K) s_moved_bound "moved_bound" := by
  refine T.fk 36 52 (q := "moved_bound") (st := s_moved_bound) sc_moved_bound (fun _ _ _ _ _ _ us hl => match us, hl with | [_, _, _, _], _ => rfl) (fun vs H Q E h => ?_) (fun cdv A outer s H vs Q E hr h => ?_)
  · obtain ⟨p, d, t, up, y, rfl, _⟩ := h
    rfl
  · obtain ⟨p, d, t, up, y, rfl, pd, ok, ⟨c1, c2⟩, ok2, k⟩ := h
    have one := ok.one
    have most := ok.most
    have lU := ok.lU
    refine ⟨_, (pss_cons (ps_expr (pe_f (k_check_bound T) hr (pa_cons (pv 0) (pa_cons (pv 1) (pa_cons (pv 2) pa_nil)))))
      (pss_cons (ps_if (pt_not (pt_val (pe_f (k_is_whole T) hr (pa_cons (pv 3) pa_nil)))) (pss_one ps_never) pss_nil)
      (pss_cons (ps_par (i := 4) (j := 5) (by rfl) sc_moved_bound.nd rfl rfl (by decide) rfl rfl (pa_cons (pe_pr (pv 0) (k_Plan_low T) hr) (pa_cons (pe_pr (pv 0) (k_Plan_high T) hr) pa_nil)) (by rfl))
      (pss_cons (ps_if (pt_cmpR op_eq (pv 2) pe_str (nomark _)) (pss_one (ps_augS (pv 4) (pe_op op_sub (pv 1) pe_int) pget_list (pv 3) ip_add set_list)) (pss_one (ps_augS (pv 5) (pe_op op_sub (pv 1) pe_int) pget_list (pv 3) ip_add set_list)))
      (pss_one (ps_ret (pe_mk (k_Plan___init__ T) (T.glo 27) hr (pa_cons (pv 4) (pa_cons (pv 5) (pa_cons (pe_pr (pv 0) (k_Plan_least T) hr) (pa_cons (pe_pr (pv 0) (k_Plan_most T) hr) pa_nil))))))))))), ?_⟩
    walk_at "ev0"
    refine ⟨p, d, t, up, rfl, pd, ok, ⟨c1, c2⟩, fun H1 f1 => ?_⟩
    have z1 := (Z.start0 H).same f1
    walk_at "ev"
    refine whole_int ?_
    walk_at "ev"
    refine r_pl (pd.mono (z1.fr0 (by simp))) fun s2 k2 => ?_
    have z2 := z1.alloc (.lst (d.L.map V.int)) k2
    walk_at "ev"
    refine r_pl (pd.mono (z2.fr0 (by simp))) fun s3 k3 => ?_
    have z3 := z2.alloc (.lst (d.U.map V.int)) k3
    walk_at "ev"
    rw [sdS_low]
    cases up with
    | false =>
      rw [Bool.not_false]
      walk_at "ev"
      refine r_at (atN1 c1 (by omega)) ?_
      walk_at "ev"
      refine r_ixn (ixN_m1 c1 (by rw [List.length_map]; omega)) ?_
      have z4 := z3.set 1 (.lst ((d.L.map V.int).set (t - 1) (.int (nth d.L (t - 1) + y)))) rfl (.inr rfl)
      walk_at "ev"
      refine r_pl (pd.mono (z4.fr0 (by simp))) fun s5 k5 => ?_
      have z5 := z4.alloc (.lst (d.A.map V.int)) k5
      walk_at "ev"
      refine r_pl (pd.mono (z5.fr0 (by simp))) fun s6 k6 => ?_
      have z6 := z5.alloc (.lst (d.B.map V.int)) k6
      walk_at "ev"
      have f6 := z6.fr0 (by simp)
      refine r_plan (d := d.moved t false y) ok2 ((z6.get (.tail _ (.tail _ (.tail _ (.head _))))).trans (by rw [← List.map_set] <;> rfl)) (z6.get (.tail _ (.tail _ (.head _)))) (z6.get (.tail _ (.head _))) (z6.get (.head _)) fun q H5 f n => ?_
      exact k q H5 (f6.trans f) (n.fwd f6)
    | true =>
      rw [Bool.not_true]
      walk_at "ev"
      refine r_at (atN1 c1 (by omega)) ?_
      walk_at "ev"
      refine r_ixn (ixN_m1 c1 (by rw [List.length_map]; omega)) ?_
      have z4 := z3.set 0 (.lst ((d.U.map V.int).set (t - 1) (.int (nth d.U (t - 1) + y)))) rfl (.inr rfl)
      walk_at "ev"
      refine r_pl (pd.mono (z4.fr0 (by simp))) fun s5 k5 => ?_
      have z5 := z4.alloc (.lst (d.A.map V.int)) k5
      walk_at "ev"
      refine r_pl (pd.mono (z5.fr0 (by simp))) fun s6 k6 => ?_
      have z6 := z5.alloc (.lst (d.B.map V.int)) k6
      walk_at "ev"
      have f6 := z6.fr0 (by simp)
      refine r_plan (d := d.moved t true y) ok2 (z6.get (.tail _ (.tail _ (.tail _ (.head _))))) ((z6.get (.tail _ (.tail _ (.head _)))).trans (by rw [← List.map_set] <;> rfl)) (z6.get (.tail _ (.head _))) (z6.get (.head _)) fun q H5 f n => ?_
      exact k q H5 (f6.trans f) (n.fwd f6)
def sp__inner_bounds (K : PySem.W.Frag) : Sp := fun vs H Q _ => ∃ (p : Addr) (d : PD), vs = [.ref p] ∧ PlanAt K [] H p d ∧ d.Ok ∧
  ∀ D ts H', H D = none → Fr [] H H' → H' D = some (.lst (ts.map V.ref)) → TL H' ts ((sidesTo (d.L.length - 1)).map sideV) → Q (.ref D) H'
theorem k__inner_bounds (T : Tx fa fn K mg base) : Fk P w K mg base "_inner_bounds" ["plan"] 3 (sp__inner_bounds K) s__inner_bounds "_inner_bounds" := by
  refine T.fk 37 53 (q := "_inner_bounds") (st := s__inner_bounds) sc__inner_bounds (fun _ _ _ _ _ _ us hl => match us, hl with | [_], _ => rfl) (fun vs H Q E h => ?_) (fun cdv A outer s H vs Q E hr h => ?_)
  · obtain ⟨p, d, rfl, _⟩ := h
    rfl
  · obtain ⟨p, d, rfl, pd, ok, k⟩ := h
    have one := ok.one
    have most := ok.most
    refine ⟨_, (pss_one (ps_ret (pe_lc2 (own := [("time", 1), ("side", 2)]) (vs1 := [2]) (wi1 := iTup K (tTup (tCons (tC (.str "high")) (tCons (tC (.str "low")) tNil)))) (tt := tYes) (tt1 := tYes) (te := (tTup (tCons (tVar 1) (tCons (tVar 2) tNil)))) rfl sc__inner_bounds.nd (pi_range2 (by rfl) (T.fr 13) (pa_cons pe_int (pa_cons (pe_callB (cr_lenP (k_Plan___len__ T) (hr.mono (by decide))) (by rfl) (T.fr 6) (by decide +kernel) (pa_cons (pv 0) pa_nil)) pa_nil))) (blkOk_by (N := ["plan", "time", "side"]) (sc := defScope s__inner_bounds) (by decide +kernel)) (by decide) (fun _ _ _ _ _ => (pg_name (i := 1) sc__inner_bounds.nd rfl (by first | exact Or.inl rfl | exact Or.inr rfl))) (fun _ _ _ _ _ => pts_nil) (fun _ _ _ _ _ => (pi_tup (pe_tup (pa_cons pe_str (pa_cons pe_str pa_nil))))) (fun _ _ _ _ _ => (pg_name (i := 2) sc__inner_bounds.nd rfl (by first | exact Or.inl rfl | exact Or.inr rfl))) (fun _ _ _ _ _ => pts_nil) (fun _ _ _ _ _ => (pe_tup (pa_cons (pv 1) (pa_cons (pv 2) pa_nil))))))), ?_⟩
    walk_at "ev0"
    refine r_lc2 ?_
    walk_at "ev"
    refine r_lenD pd (by omega) ?_
    walk_at "ev"
    refine ⟨⟨by decide, by decide, by omega, by omega⟩, ?_⟩
    have en : ((d.L.length : Int) - 1).toNat = d.L.length - 1 := by omega
    rw [en]
    refine lc2_tl (walk_range (lo := 1)) (fun i => (sidesAt i).map sideV) (fun _ _ => trivial) (fun i H' x H'' y => by rw [y.1]; exact Fr.refl _) (fun i x H' H'' D ts Nx hi e y f1 hD gD tl kN => ?_) (fun D ts H' hD e gD tl => ?_)
    · obtain ⟨rfl, rfl⟩ := y
      walk_at "ev"
      refine ⟨rfl, ?_⟩
      walk_at "ev"
      intro a ka
      have fa1 := f1.new (o := .tup [.str "high", .str "low"]) ka
      have ga : upd H'' a (.tup [.str "high", .str "low"]) a = some (.tup [.str "high", .str "low"]) := upd_same
      have gD2 : upd H'' a (.tup [.str "high", .str "low"]) D = some (.lst (ts.map V.ref)) := by
        rw [upd_ne (fun z => by rw [z, ka] at gD; cases gD)]
        exact gD
      have aD : a ∉ [D] := fun m => by
        rw [List.mem_singleton.mp m, gD] at ka
        cases ka
      refine ⟨a, rfl, ⟨_, SqT.of ga⟩, ?_⟩
      have lenf : ((List.range i).flatMap fun i => (sidesAt i).map sideV).length ≤ 1000 := by
        have e2 : (List.range i).flatMap (fun i => (sidesAt i).map sideV) = (sidesTo i).map sideV := by
          unfold sidesTo
          rw [List.map_flatMap]
        rw [e2, List.length_map, sidesTo_len]
        omega
      have e1 : (1 : Int) + (i : Int) = ((i + 1 : Nat) : Int) := by omega
      refine in1_tl (walk_tup (xs := [.str "high", .str "low"])) (fun i2 => sideV (i + 1, decide (i2 = 0))) hD fa1 gD2 (tl.more ka) (by show _ + 2 ≤ _; omega) (fun G fG => SqT.of (fG _ _ aD ga)) (fun i2 G x G' y => by rw [y.1]; exact Fr.refl _) (fun i2 x G G' R hi2 fG0 fG y kR => ?_) (fun ts2 G fG gG tl2 => kN ts2 G fG gG tl2)
      obtain ⟨rfl, hx⟩ := y
      have hi2 : i2 < 2 := hi2
      have xe : x = .str (sdS (decide (i2 = 0))) := by
        rcases (show i2 = 0 ∨ i2 = 1 by omega) with rfl | rfl
        · exact (Option.some.inj hx).symm
        · exact (Option.some.inj hx).symm
      subst xe
      walk_at "ev"
      refine ⟨rfl, ?_⟩
      walk_at "ev"
      intro a6 k6
      show R (.ref a6) (upd _ a6 (.tup [.int (1 + (i : Int)), .str (sdS (decide (i2 = 0)))]))
      rw [e1]
      exact kR a6 _ (Fr.refl _) k6
    · refine k D ts H' hD e gD ?_
      have e2 : (List.range (d.L.length - 1)).flatMap (fun i => (sidesAt i).map sideV) = (sidesTo (d.L.length - 1)).map sideV := by
        unfold sidesTo
        rw [List.map_flatMap]
      rw [← e2]
      exact tl
end
set_option Elab.async false
set_option linter.all false
set_option maxRecDepth 100000
set_option maxHeartbeats 4000000
section
variable {J : It} {n : Nat} {GG : Hp → Prop} {Y : Nat → Hp → V → Hp → Prop} {g : TG} {tt : TT} {te : TE} {vs : List Nat} {σ : L2.St} {H1 : Hp} {Q : VK}
/-- a comprehension of new tuples, with a test -/
theorem lc_tlf (w : Walk J n GG Y) (f : Nat → List V) (p : Nat → Bool) (hn : n ≤ 100000) (hG : ∀ H', Fr [] H1 H' → GG H') (hY : ∀ i H' x H'', Y i H' x H'' → Fr [] H' H'')
    (he : ∀ i x H' H'' (R : VK) (N : Hp → Prop), i < n → Fr [] H1 H' → Y i H' x H'' → (p i = true → ∀ t H3, Fr [] H'' H3 → H3 t = none → R (.ref t) (upd H3 t (.tup (f i)))) → (p i = false → ∀ H4, Fr [] H'' H4 → N H4) → g x (wipe σ vs) H'' fun σ2 H2 => wipe σ2 vs = wipe σ vs ∧ tt σ2 H2 fun b H3 => if b = true then te σ2 H3 R else N H3)
    (hd : ∀ D ts H', H1 D = none → Fr [] H1 H' → H' D = some (.lst (ts.map V.ref)) → TL H' ts (((List.range n).filter p).map f) → (∀ t ∈ ts, H1 t = none) → Q (.ref D) H') : LcJ g tt te vs σ Q J H1 := by
  intro D hD
  refine lc_it w (fun i H' => i ≤ n ∧ Fr [] H1 H' ∧ ∃ ts : List Addr, H' D = some (.lst (ts.map V.ref)) ∧ TL H' ts (((List.range i).filter p).map f) ∧ ∀ t ∈ ts, H1 t = none) ⟨Nat.zero_le _, (Fr.refl H1).mut hD, [], upd_same, TL.nil _, fun _ m => nomatch m⟩ (fun i H' _ p => hG H' p.2.1) (fun i x H' H'' hi q y => ?_) (fun H' q => by
    obtain ⟨_, p2, ts, p3, p4, p5⟩ := q
    exact hd D ts H' hD p2 p3 p4 p5)
  obtain ⟨p1, p2, ts, p3, p4, p5⟩ := q
  have hf := hY i H' x H'' y
  refine he i x H' H'' (fun y H4 => ∃ acc, H4 D = some (.lst acc) ∧ acc.length < sizeLine ∧ (i + 1 ≤ n ∧ Fr [] H1 (upd H4 D (.lst (acc ++ [y]))) ∧ ∃ ts : List Addr, (upd H4 D (.lst (acc ++ [y]))) D = some (.lst (ts.map V.ref)) ∧ TL (upd H4 D (.lst (acc ++ [y]))) ts (((List.range (i + 1)).filter p).map f) ∧ ∀ t ∈ ts, H1 t = none)) _ hi p2 y (fun pi t H3 e3 ht => ?_) fun pi H4 e4 => ?_
  · have e4 : Fr [] H' H3 := hf.trans e3
    have d3 := e4 _ _ (fun z => nomatch z) p3
    have ne : D ≠ t := fun e => by rw [e, ht] at d3; cases d3
    have d4 : (upd H3 t (.tup (f i))) D = some (.lst (ts.map V.ref)) := by rw [upd_ne ne]; exact d3
    have t3 : TL H3 ts (((List.range i).filter p).map f) := p4.fr fun a o h => e4 a o (fun z => nomatch z) h
    have t4 := ((t3.more (o := .tup (f i)) ht).add (v := f i) upd_same).put (o := .lst (ts.map V.ref ++ [.ref t])) d4
    have len : ts.length ≤ i := by
      have := p4.1
      rw [List.length_map] at this
      have := List.length_filter_le p (List.range i)
      rw [List.length_range] at this
      omega
    refine ⟨_, d4, ?_, hi, (p2.trans (e4.new ht)).mut hD, ts ++ [t], ?_, ?_, fun q m => ?_⟩
    · rw [List.length_map]
      exact Nat.lt_of_lt_of_le (show ts.length < 100001 by omega) (by decide)
    · rw [upd_same, List.map_append]
      rfl
    · rw [List.range_succ, List.filter_append, List.map_append, List.filter_cons_of_pos (by exact pi)]
      exact t4
    · rcases List.mem_append.mp m with m | m
      · exact p5 q m
      · rw [List.mem_singleton.mp m]
        cases e : H1 t with
        | none => rfl
        | some o =>
          have := (p2.trans e4) t o (fun z => nomatch z) e
          rw [ht] at this
          cases this
  · have e5 : Fr [] H' H4 := hf.trans e4
    refine ⟨hi, p2.trans e5, ts, e5 _ _ (fun z => nomatch z) p3, ?_, p5⟩
    rw [List.range_succ, List.filter_append, List.filter_cons_of_neg (by simp [pi]), List.filter_nil, List.append_nil]
    exact p4.fr fun a o h => e5 a o (fun z => nomatch z) h
end
set_option Elab.async false
set_option linter.all false
set_option maxRecDepth 100000
set_option maxHeartbeats 4000000
set_option exponentiation.threshold 3000
open Classical in
noncomputable def nbB (d : PD) (p : Nat × Bool) : Bool := decide (NB d p.1 p.2)
open Classical in
noncomputable def idB (d : PD) (p : Nat × Bool) : Bool := decide (IDL d p.1 p.2)
theorem nbB_t {d : PD} {t : Nat} {up : Bool} (h : NB d t up) : nbB d (t, up) = true := by
  unfold nbB
  exact @decide_eq_true _ (Classical.propDecidable _) h
theorem nbB_f {d : PD} {t : Nat} {up : Bool} (h : ¬ NB d t up) : nbB d (t, up) = false := by
  unfold nbB
  exact @decide_eq_false _ (Classical.propDecidable _) h
theorem idB_t {d : PD} {t : Nat} {up : Bool} (h : IDL d t up) : idB d (t, up) = true := by
  unfold idB
  exact @decide_eq_true _ (Classical.propDecidable _) h
theorem idB_f {d : PD} {t : Nat} {up : Bool} (h : ¬ IDL d t up) : idB d (t, up) = false := by
  unfold idB
  exact @decide_eq_false _ (Classical.propDecidable _) h
noncomputable def freeL (d : PD) : List (Nat × Bool) := (sidesTo (d.L.length - 1)).filter (nbB d)
noncomputable def stillL (d : PD) : List (Nat × Bool) := (sidesTo (d.L.length - 1)).filter (idB d)
theorem side_at {H : Hp} {ts : List Addr} {n i : Nat} {x : V} (tl : TL H ts ((sidesTo n).map sideV)) (hi : i < ts.length) (hx : (ts[i]?).map V.ref = some x) :
    ∃ (t : Nat) (up : Bool) (u : Addr), x = .ref u ∧ H u = some (.tup [.int (t : Nat), .str (sdS up)]) ∧ 1 ≤ t ∧ t ≤ n ∧ (sidesTo n).getD i (0, true) = (t, up) := by
  have tlen : ts.length = (sidesTo n).length := by
    have := tl.1
    rw [List.length_map] at this
    exact this
  have eu : ts[i]? = some ts[i] := List.getElem?_eq_getElem hi
  rw [eu] at hx
  have h := tl.2 i ts[i] eu
  have hi2 : i < (sidesTo n).length := by omega
  rw [List.getD_eq_getElem?_getD, List.getElem?_map, List.getElem?_eq_getElem hi2] at h
  have hm := sidesTo_mem.mp (List.getElem_mem hi2)
  refine ⟨(sidesTo n)[i].1, (sidesTo n)[i].2, ts[i], (Option.some.inj hx).symm, h, hm.1, hm.2, ?_⟩
  rw [List.getD_eq_getElem?_getD, List.getElem?_eq_getElem hi2]
  rfl
section
variable {P : Program} {w : World} {K : PySem.W.Frag} {mg : Str → Option Value} {base : Heap}
def sp_needless (K : PySem.W.Frag) : Sp := fun vs H Q _ => ∃ (p : Addr) (d : PD), vs = [.ref p] ∧ PlanAt K [] H p d ∧ d.Ok ∧ d.Has ∧ d.Bd ∧
  ∀ D ts H', H D = none → Fr [] H H' → H' D = some (.lst (ts.map V.ref)) → TL H' ts ((freeL d).map sideV) → Q (.ref D) H'
theorem k_needless (T : Tx fa fn K mg base) : Fk P w K mg base "needless" ["plan"] 10 (sp_needless K) s_needless "needless" := by
  refine T.fk 38 54 (q := "needless") (st := s_needless) sc_needless (fun _ _ _ _ _ _ us hl => match us, hl with | [_], _ => rfl) (fun vs H Q E h => ?_) (fun cdv A outer s H vs Q E hr h => ?_)
  · obtain ⟨p, d, rfl, _⟩ := h
    rfl
  · obtain ⟨p, d, rfl, pd, ok, has, bd, k⟩ := h
    have one := ok.one
    have most := ok.most
    refine ⟨_, (pss_cons (ps_expr (pe_f (k_check_rows T) hr (pa_cons (pv 0) pa_nil)))
      (pss_one (ps_ret (pe_lc (own := [("time", 1), ("side", 2)]) (tt := (tTest (tOp (rI0 fun i j => .bl (decide (j ≤ i))) (tCall (sp__room_within K) [] E0 (tCons (tVar 0) (tCons (tMeth (He.ga K "Plan") "loosened" (sp_Plan_loosened K) [] E0 (tVar 0) (tCons (tVar 1) (tCons (tVar 2) tNil))) (tCons (tVar 1) (tCons (tVar 2) tNil))))) (tC (.int 0))))) (g := (gTup K 2 (gCons (gName 1) (gCons (gName 2) gNil)))) (te := (tTup (tCons (tVar 1) (tCons (tVar 2) tNil)))) rfl sc_needless.nd (pi_list (pe_f (k__inner_bounds T) hr (pa_cons (pv 0) pa_nil))) (blkOk_by (N := ["plan", "time", "side"]) (sc := defScope s_needless) (by decide +kernel)) (fun _ _ _ _ _ => (pg_tup rfl (pgs_cons (pg_name (i := 1) sc_needless.nd rfl (by first | exact Or.inl rfl | exact Or.inr rfl)) (pgs_cons (pg_name (i := 2) sc_needless.nd rfl (by first | exact Or.inl rfl | exact Or.inr rfl)) pgs_nil)))) (fun _ _ _ _ _ => (pts_one (pt_cmpR op_ge (pe_f (k__room_within T) hr (pa_cons (pv 0) (pa_cons (pe_m (pv 0) (k_Plan_loosened T) hr (pa_cons (pv 1) (pa_cons (pv 2) pa_nil))) (pa_cons (pv 1) (pa_cons (pv 2) pa_nil))))) pe_int (nomark _)))) (fun _ _ _ _ _ => (pe_tup (pa_cons (pv 1) (pa_cons (pv 2) pa_nil)))))))), ?_⟩
    walk_at "ev0"
    refine ⟨p, d, rfl, pd, ok, has, fun H1 f1 => ?_⟩
    walk_at "ev"
    refine ⟨p, d, rfl, pd.mono f1, ok, fun E ts H2 hE f2 gE tl => ?_⟩
    have f12 := f1.trans f2
    have tlen : ts.length = (sidesTo (d.L.length - 1)).length := by
      have := tl.1
      rw [List.length_map] at this
      exact this
    have sl := sidesTo_len (d.L.length - 1)
    walk_at "ev"
    refine lc_tlf (walk_list (xs := ts.map V.ref)) (fun i => sideV ((sidesTo (d.L.length - 1)).getD i (0, true))) (fun i => nbB d ((sidesTo (d.L.length - 1)).getD i (0, true))) (by rw [List.length_map]; omega) (fun H' e => e.sql (SqL.of gE) nin) (fun i H' x H'' y => by rw [y.1]; exact Fr.refl _) (fun i x H' H'' R N hi e y kR kN => ?_) (fun D us H3 hD f3 gD tu _ => ?_)
    · obtain ⟨rfl, hx⟩ := y
      rw [List.length_map] at hi
      obtain ⟨t, up, u, rfl, hu, c1, c2, es⟩ := side_at tl hi (by rw [List.getElem?_map] at hx; exact hx)
      rw [es] at kR kN
      have gu := e _ _ nin hu
      have pd2 := pd.mono (f12.trans e)
      walk_at "ev"
      refine ⟨rfl, ?_⟩
      walk_at "ev"
      obtain ⟨dx, _, _, _, _, hp, _⟩ := pd2.ex
      refine ⟨p, dx, _, rfl, hp, rfl, ?_⟩
      walk_at "ev"
      refine ⟨p, d, t, up, rfl, pd2, ok, ⟨c1, by omega⟩, fun q H4 f4 n4 => ?_⟩
      have inn := inn_loose (up := up) ok c1 (show t < d.L.length by omega)
      walk_at "ev"
      refine ⟨p, q, d, _, t, up, rfl, pd2.mono f4, ok, n4.at, ok.loose c1 (by omega), loose_has ok c1 (by omega) has, inn.bd' bd, inn.len.symm, ⟨c1, by omega⟩, fun r H5 f5 rm => ?_⟩
      have nb := room_nb ok c1 (show t < d.L.length by omega) has rm
      have f25 := f4.trans f5
      walk_at "ev"
      by_cases c : 0 ≤ r
      · rw [if_pos (decide_eq_true c)]
        walk_at "ev"
        intro a6 k6
        exact kR (nbB_t (nb.mp c)) a6 _ f25 k6
      · rw [if_neg (by rw [decide_eq_true_eq]; exact c)]
        exact kN (nbB_f fun z => c (nb.mpr z)) _ f25
    · rw [List.length_map, tlen, filt_list (0, true) (nbB d) sideV] at tu
      exact k D us H3 (f12.none hD) (f12.trans f3) gD tu
def sp_idle (K : PySem.W.Frag) : Sp := fun vs H Q _ => ∃ (p : Addr) (d : PD), vs = [.ref p] ∧ PlanAt K [] H p d ∧ d.Ok ∧ d.Has ∧ d.Bd ∧
  ∀ D ts H', H D = none → Fr [] H H' → H' D = some (.lst (ts.map V.ref)) → TL H' ts ((stillL d).map sideV) → Q (.ref D) H'
theorem k_idle (T : Tx fa fn K mg base) : Fk P w K mg base "idle" ["plan"] 10 (sp_idle K) s_idle "idle" := by
  refine T.fk 39 55 (q := "idle") (st := s_idle) sc_idle (fun _ _ _ _ _ _ us hl => match us, hl with | [_], _ => rfl) (fun vs H Q E h => ?_) (fun cdv A outer s H vs Q E hr h => ?_)
  · obtain ⟨p, d, rfl, _⟩ := h
    rfl
  · obtain ⟨p, d, rfl, pd, ok, has, bd, k⟩ := h
    have one := ok.one
    have most := ok.most
    refine ⟨_, (pss_cons (ps_set (i := 1) sc_idle.nd rfl (by first | exact Or.inl rfl | exact Or.inr rfl) (pe_f (k_best_entries T) hr (pa_cons (pv 0) pa_nil)))
      (pss_one (ps_ret (pe_lc (own := [("time", 2), ("side", 3)]) (tt := (tTest (tOp (rEqD K) (tCall (sp_best_entries K) [] E0 (tCons (tMeth (He.ga K "Plan") "loosened" (sp_Plan_loosened K) [] E0 (tVar 0) (tCons (tVar 2) (tCons (tVar 3) tNil))) tNil)) (tVar 1)))) (g := (gTup K 2 (gCons (gName 2) (gCons (gName 3) gNil)))) (te := (tTup (tCons (tVar 2) (tCons (tVar 3) tNil)))) rfl sc_idle.nd (pi_list (pe_f (k__inner_bounds T) hr (pa_cons (pv 0) pa_nil))) (blkOk_by (N := ["plan", "entries", "time", "side"]) (sc := defScope s_idle) (by decide +kernel)) (fun _ _ _ _ _ => (pg_tup rfl (pgs_cons (pg_name (i := 2) sc_idle.nd rfl (by first | exact Or.inl rfl | exact Or.inr rfl)) (pgs_cons (pg_name (i := 3) sc_idle.nd rfl (by first | exact Or.inl rfl | exact Or.inr rfl)) pgs_nil)))) (fun _ _ _ _ _ => (pts_one (pt_cmpR (op_eqD hr.units) (pe_f (k_best_entries T) hr (pa_cons (pe_m (pv 0) (k_Plan_loosened T) hr (pa_cons (pv 2) (pa_cons (pv 3) pa_nil))) pa_nil)) (pv 1) (nomark _)))) (fun _ _ _ _ _ => (pe_tup (pa_cons (pv 2) (pa_cons (pv 3) pa_nil)))))))), ?_⟩
    walk_at "ev0"
    refine ⟨p, d, rfl, pd, ok, has, bd, fun r1 H1 ns top h1 f1 g1 tb pm so => ?_⟩
    have tbl := tb.len
    have pml := pm.length_eq
    walk_at "ev"
    refine ⟨p, d, rfl, pd.mono f1, ok, fun E ts H2 hE f2 gE tl => ?_⟩
    have f12 := f1.trans f2
    have g2 := f2 _ _ nin g1
    have tlen : ts.length = (sidesTo (d.L.length - 1)).length := by
      have := tl.1
      rw [List.length_map] at this
      exact this
    have sl := sidesTo_len (d.L.length - 1)
    walk_at "ev"
    refine lc_tlf (walk_list (xs := ts.map V.ref)) (fun i => sideV ((sidesTo (d.L.length - 1)).getD i (0, true))) (fun i => idB d ((sidesTo (d.L.length - 1)).getD i (0, true))) (by rw [List.length_map]; omega) (fun H' e => e.sql (SqL.of gE) nin) (fun i H' x H'' y => by rw [y.1]; exact Fr.refl _) (fun i x H' H'' R N hi e y kR kN => ?_) (fun D us H3 hD f3 gD tu _ => ?_)
    · obtain ⟨rfl, hx⟩ := y
      rw [List.length_map] at hi
      obtain ⟨t, up, u, rfl, hu, c1, c2, es⟩ := side_at tl hi (by rw [List.getElem?_map] at hx; exact hx)
      rw [es] at kR kN
      have gu := e _ _ nin hu
      have g3 := e _ _ nin g2
      have pd2 := pd.mono (f12.trans e)
      walk_at "ev"
      refine ⟨rfl, ?_⟩
      walk_at "ev"
      obtain ⟨dx, _, _, _, _, hp, _⟩ := pd2.ex
      refine ⟨p, dx, _, rfl, hp, rfl, ?_⟩
      walk_at "ev"
      refine ⟨p, d, t, up, rfl, pd2, ok, ⟨c1, by omega⟩, fun q H4 f4 n4 => ?_⟩
      have inn := inn_loose (up := up) ok c1 (show t < d.L.length by omega)
      walk_at "ev"
      refine ⟨q, _, rfl, n4.at, ok.loose c1 (by omega), loose_has ok c1 (by omega) has, inn.bd' bd, fun r5 H5 ms top2 h5 f5 g5 tb2 pm2 so2 => ?_⟩
      have f25 := f4.trans f5
      have g4 := f25 _ _ nin g3
      have id := (sort_perm pm2 pm so2 so).trans ((List.perm_comm).trans (idl_iff ok (ok.loose c1 (by omega)) tb.len tb2.len tb.best tb2.best).symm)
      walk_at "ev"
      refine r_eqI (SqL.of g5) (SqL.of g4) ?_
      walk_at "ev"
      by_cases c : ms = ns
      · rw [if_pos (decide_eq_true c)]
        walk_at "ev"
        intro a6 k6
        exact kR (idB_t (id.mp c)) a6 _ f25 k6
      · rw [if_neg (by rw [decide_eq_true_eq]; exact c)]
        exact kN (idB_f fun z => c (id.mpr z)) _ f25
    · rw [List.length_map, tlen, filt_list (0, true) (idB d) sideV] at tu
      exact k D us H3 (f12.none hD) (f12.trans f3) gD tu
end
set_option Elab.async false
set_option linter.all false
set_option maxRecDepth 100000
set_option maxHeartbeats 4000000
set_option exponentiation.threshold 2000
structure ML (H0 : Hp) (J : List Addr) (H : Hp) (ws : List Addr) (xs : List (List Int)) : Prop where
  len : ws.length = xs.length
  at_ : ∀ (i : Nat) (w : Addr), ws[i]? = some w → ∃ b, H w = some (.tup [.ref b, .int (xs.getD i []).sum]) ∧ H b = some (.lst ((xs.getD i []).map V.int)) ∧ b ∉ J ∧ H0 b = none
section
variable {H0 H H' : Hp} {J : List Addr} {ws : List Addr} {xs : List (List Int)} {c w b : Addr} {o : HO} {ys : List V} {ms : List Int}
theorem ML.nil : ML H0 J H [] [] := ⟨rfl, fun i w h => by cases h⟩
theorem ML.fr (m : ML H0 J H ws xs) (f : Fr [] H H') : ML H0 J H' ws xs := ⟨m.len, fun i w h => by
  obtain ⟨b, h1, h2, h3⟩ := m.at_ i w h
  exact ⟨b, f _ _ nin h1, f _ _ nin h2, h3⟩⟩
theorem ML.more (m : ML H0 J H ws xs) (hc : H c = none) : ML H0 J (upd H c o) ws xs := m.fr ((Fr.refl _).new hc)
theorem ML.put (m : ML H0 J H ws xs) (hJ : c ∈ J) (hc : H c = some (.lst ys)) : ML H0 J (upd H c o) ws xs := ⟨m.len, fun i w h => by
  obtain ⟨b, h1, h2, h3, h4⟩ := m.at_ i w h
  exact ⟨b, by rw [upd_ne (fun e => by rw [e, hc] at h1; cases h1)]; exact h1, by rw [upd_ne (fun e => h3 (by rw [e]; exact hJ))]; exact h2, h3, h4⟩⟩
theorem ML.newJ (m : ML H0 J H ws xs) (hc : H c = none) : ML H0 [c] H ws xs := ⟨m.len, fun i w h => by
  obtain ⟨b, h1, h2, h3, h4⟩ := m.at_ i w h
  exact ⟨b, h1, h2, (fun z => by rw [List.mem_singleton.mp z, hc] at h2; cases h2), h4⟩⟩
theorem ML.any (m : ML H0 J H ws xs) : ML H0 [] H ws xs := ⟨m.len, fun i w h => by
  obtain ⟨b, h1, h2, h3, h4⟩ := m.at_ i w h
  exact ⟨b, h1, h2, nin, h4⟩⟩
theorem ML.add (m : ML H0 J H ws xs) (h1 : H w = some (.tup [.ref b, .int ms.sum])) (h2 : H b = some (.lst (ms.map V.int))) (h3 : b ∉ J) (h4 : H0 b = none) : ML H0 J H (ws ++ [w]) (xs ++ [ms]) := by
  refine ⟨by rw [List.length_append, List.length_append, m.len] <;> rfl, fun i a ha => ?_⟩
  by_cases e : i < ws.length
  · rw [List.getElem?_append_left e] at ha
    have := m.at_ i a ha
    rw [List.getD_eq_getElem?_getD, List.getElem?_append_left (by rw [← m.len]; exact e), ← List.getD_eq_getElem?_getD]
    exact this
  · have hl := (List.getElem?_eq_some_iff.mp ha).1
    rw [List.length_append, List.length_singleton] at hl
    obtain rfl : i = ws.length := by omega
    rw [List.getElem?_concat_length] at ha
    obtain rfl := Option.some.inj ha
    rw [List.getD_eq_getElem?_getD, m.len, List.getElem?_concat_length]
    exact ⟨b, h1, h2, h3, h4⟩
/-- the i-th list and its sum -/
theorem ML.get (m : ML H0 J H ws xs) {i : Nat} (h : i < ws.length) : ∃ w b ms, ws[i]? = some w ∧ xs[i]? = some ms ∧ H w = some (.tup [.ref b, .int ms.sum]) ∧ H b = some (.lst (ms.map V.int)) ∧ H0 b = none ∧ b ∉ J := by
  obtain ⟨b, h1, h2, h3, h4⟩ := m.at_ i _ (List.getElem?_eq_getElem h)
  have hx : i < xs.length := by rw [← m.len]; exact h
  refine ⟨_, b, xs[i], List.getElem?_eq_getElem h, List.getElem?_eq_getElem hx, ?_, ?_, h4, h3⟩
  · rw [List.getD_eq_getElem?_getD, List.getElem?_eq_getElem hx] at h1
    exact h1
  · rw [List.getD_eq_getElem?_getD, List.getElem?_eq_getElem hx] at h2
    exact h2
end
/-- lists on the heap, new since the entry -/
structure LLs (H0 H : Hp) (ws : List Addr) (xs : List (List Int)) : Prop where
  len : ws.length = xs.length
  at_ : ∀ (i : Nat) (w : Addr), ws[i]? = some w → H w = some (.lst ((xs.getD i []).map V.int)) ∧ H0 w = none
section
variable {H0 H H' : Hp} {ws : List Addr} {xs : List (List Int)} {j w : Addr} {ms : List Int}
theorem LLs.nil : LLs H0 H [] [] := ⟨rfl, fun i w h => by cases h⟩
theorem LLs.fr (m : LLs H0 H ws xs) (f : Fr [] H H') : LLs H0 H' ws xs := ⟨m.len, fun i w h => ⟨f _ _ nin (m.at_ i w h).1, (m.at_ i w h).2⟩⟩
theorem LLs.get (m : LLs H0 H ws xs) {i : Nat} (h : i < ws.length) : ∃ w ms, ws[i]? = some w ∧ xs[i]? = some ms ∧ H w = some (.lst (ms.map V.int)) ∧ H0 w = none := by
  obtain ⟨h1, h2⟩ := m.at_ i _ (List.getElem?_eq_getElem h)
  have hx : i < xs.length := by rw [← m.len]; exact h
  refine ⟨_, xs[i], List.getElem?_eq_getElem h, List.getElem?_eq_getElem hx, ?_, h2⟩
  rw [List.getD_eq_getElem?_getD, List.getElem?_eq_getElem hx] at h1
  exact h1
theorem LLs.add (m : LLs H0 H ws xs) (h1 : H w = some (.lst (ms.map V.int))) (h2 : H0 w = none) : LLs H0 H (ws ++ [w]) (xs ++ [ms]) := by
  refine ⟨by rw [List.length_append, List.length_append, m.len] <;> rfl, fun i a ha => ?_⟩
  by_cases e : i < ws.length
  · rw [List.getElem?_append_left e] at ha
    have := m.at_ i a ha
    rw [List.getD_eq_getElem?_getD, List.getElem?_append_left (by rw [← m.len]; exact e), ← List.getD_eq_getElem?_getD]
    exact this
  · have hl := (List.getElem?_eq_some_iff.mp ha).1
    rw [List.length_append, List.length_singleton] at hl
    obtain rfl : i = ws.length := by omega
    rw [List.getElem?_concat_length] at ha
    obtain rfl := Option.some.inj ha
    rw [List.getD_eq_getElem?_getD, m.len, List.getElem?_concat_length]
    exact ⟨h1, h2⟩
end
theorem ML.lists {H0 H : Hp} {J ws : List Addr} {xs : List (List Int)} (m : ML H0 J H ws xs) : ∃ bs : List Addr, bs.length = ws.length ∧ (∀ i w, ws[i]? = some w → H w = some (.tup [.ref (bs.getD i 0), .int (xs.getD i []).sum])) ∧ LLs H0 H bs xs := by
  classical
  have ex : ∀ i, ∃ b : Addr, ∀ w, ws[i]? = some w → H w = some (.tup [.ref b, .int (xs.getD i []).sum]) ∧ H b = some (.lst ((xs.getD i []).map V.int)) ∧ H0 b = none := fun i => by
    cases e : ws[i]? with
    | none => exact ⟨0, fun w h => by cases h⟩
    | some w =>
      obtain ⟨b, h1, h2, _, h4⟩ := m.at_ i w e
      exact ⟨b, fun w' h => by
        cases h
        exact ⟨h1, h2, h4⟩⟩
  let g : Nat → Addr := fun i => (ex i).choose
  have hg : ∀ i w, ws[i]? = some w → H w = some (.tup [.ref (g i), .int (xs.getD i []).sum]) ∧ H (g i) = some (.lst ((xs.getD i []).map V.int)) ∧ H0 (g i) = none := fun i => (ex i).choose_spec
  have ge : ∀ i, i < ws.length → ((List.range ws.length).map g).getD i 0 = g i := fun i hi => by
    rw [List.getD_eq_getElem?_getD, List.getElem?_map, List.getElem?_range hi]
    rfl
  refine ⟨(List.range ws.length).map g, by simp, fun i w h => ?_, by simp [m.len], fun i b h => ?_⟩
  · rw [ge i (List.getElem?_eq_some_iff.mp h).1]
    exact (hg i w h).1
  · have hi : i < ws.length := by
      have := (List.getElem?_eq_some_iff.mp h).1
      simpa using this
    rw [List.getElem?_map, List.getElem?_range hi] at h
    obtain rfl := Option.some.inj h
    exact (hg i _ (List.getElem?_eq_getElem hi)).2
section
variable {d : PD}
def okE (d : PD) (t : Nat) (s e : Int) : Bool := decide (nth d.L t ≤ s + e) && decide (s + e ≤ nth d.U t)
def extK (d : PD) (t : Nat) (ms : List Int) (k : Nat) : List (List Int) := ((List.range k).filter fun i : Nat => okE d t ms.sum (nth d.A t + (i : Int))).map fun i : Nat => ms ++ [nth d.A t + (i : Int)]
def ranK (d : PD) (t : Nat) : Nat := (nth d.B t + 1 - nth d.A t).toNat
def extF (d : PD) (t : Nat) (xs : List (List Int)) : List (List Int) := xs.flatMap fun ms => extK d t ms (ranK d t)
def allTo (d : PD) : Nat → List (List Int)
  | 0 => [[]]
  | t + 1 => extF d t (allTo d t)
theorem extK_zero {t : Nat} {ms : List Int} : extK d t ms 0 = [] := rfl
theorem extK_yes {t : Nat} {ms : List Int} {k : Nat} (h : okE d t ms.sum (nth d.A t + (k : Int)) = true) : extK d t ms (k + 1) = extK d t ms k ++ [ms ++ [nth d.A t + (k : Int)]] := by
  unfold extK
  rw [List.range_succ, List.filter_append, List.map_append, List.filter_cons_of_pos (by exact h)]
  rfl
theorem extK_no {t : Nat} {ms : List Int} {k : Nat} (h : ¬ okE d t ms.sum (nth d.A t + (k : Int)) = true) : extK d t ms (k + 1) = extK d t ms k := by
  unfold extK
  rw [List.range_succ, List.filter_append, List.map_append, List.filter_cons_of_neg (by exact h)]
  simp
theorem extK_len {t : Nat} {ms : List Int} {k : Nat} : (extK d t ms k).length ≤ k := by
  unfold extK
  rw [List.length_map]
  have := List.length_filter_le (fun i : Nat => okE d t ms.sum (nth d.A t + (i : Int))) (List.range k)
  rw [List.length_range] at this
  exact this
theorem extF_succ {t j : Nat} {xs : List (List Int)} {ms : List Int} (h : xs[j]? = some ms) : extF d t (xs.take (j + 1)) = extF d t (xs.take j) ++ extK d t ms (ranK d t) := by
  unfold extF
  rw [List.take_add_one, h, List.flatMap_append]
  simp
theorem extF_len {t r : Nat} (hr : ranK d t ≤ r) : ∀ xs : List (List Int), (extF d t xs).length ≤ xs.length * r
  | [] => by show 0 ≤ _; exact Nat.zero_le _
  | ms :: xs => by
    have ih := extF_len hr xs
    have h1 := extK_len (d := d) (t := t) (ms := ms) (k := ranK d t)
    have e : extF d t (ms :: xs) = extK d t ms (ranK d t) ++ extF d t xs := by unfold extF; rw [List.flatMap_cons]
    rw [e, List.length_append, List.length_cons, Nat.add_mul]
    omega
theorem mem_extK {t : Nat} {ms ns : List Int} {k : Nat} : ns ∈ extK d t ms k ↔ ∃ i : Nat, i < k ∧ okE d t ms.sum (nth d.A t + (i : Int)) = true ∧ ns = ms ++ [nth d.A t + (i : Int)] := by
  unfold extK
  rw [List.mem_map]
  constructor
  · rintro ⟨i, hi, rfl⟩
    obtain ⟨h1, h2⟩ := List.mem_filter.mp hi
    exact ⟨i, List.mem_range.mp h1, h2, rfl⟩
  · rintro ⟨i, h1, h2, rfl⟩
    exact ⟨i, List.mem_filter.mpr ⟨List.mem_range.mpr h1, h2⟩, rfl⟩
theorem okE_iff {t : Nat} {s e : Int} : okE d t s e = true ↔ nth d.L t ≤ s + e ∧ s + e ≤ nth d.U t := by
  unfold okE
  rw [Bool.and_eq_true, decide_eq_true_iff, decide_eq_true_iff]
/-- what a beginning of a row keeps -/
def PreR (d : PD) (t : Nat) (ns : List Int) : Prop := ns.length = t ∧ ∀ i, i < t → nth d.A i ≤ nth ns i ∧ nth ns i ≤ nth d.B i ∧ nth d.L i ≤ sumX ns (i + 1) ∧ sumX ns (i + 1) ≤ nth d.U i
theorem sumX_app {ms : List Int} {x : Int} {t : Nat} (h : t ≤ ms.length) : sumX (ms ++ [x]) t = sumX ms t := by
  unfold sumX
  rw [List.take_append_of_le_length h]
theorem sumX_end {ms : List Int} {x : Int} : sumX (ms ++ [x]) (ms.length + 1) = ms.sum + x := by
  unfold sumX
  rw [List.take_of_length_le (by rw [List.length_append]; exact Nat.le_refl _), List.sum_append]
  simp
theorem allTo_iff : ∀ t ns, ns ∈ allTo d t ↔ PreR d t ns
  | 0, ns => by
    show ns ∈ [[]] ↔ _
    rw [List.mem_singleton]
    constructor
    · rintro rfl
      exact ⟨rfl, fun i hi => absurd hi (Nat.not_lt_zero i)⟩
    · rintro ⟨h, _⟩
      exact List.eq_nil_of_length_eq_zero h
  | t + 1, ns => by
    show ns ∈ extF d t (allTo d t) ↔ _
    unfold extF
    rw [List.mem_flatMap]
    constructor
    · rintro ⟨ms, hm, hn⟩
      obtain ⟨l1, p1⟩ := (allTo_iff t ms).mp hm
      obtain ⟨i, hi, ho, rfl⟩ := mem_extK.mp hn
      obtain ⟨o1, o2⟩ := okE_iff.mp ho
      refine ⟨by rw [List.length_append, l1]; rfl, fun k hk => ?_⟩
      by_cases e : k < t
      · rw [nth_app_lt (by omega), sumX_app (by omega)]
        exact p1 k e
      · obtain rfl : k = t := by omega
        have e2 := sumX_end (ms := ms) (x := nth d.A k + (i : Int))
        rw [l1] at e2
        rw [nth_app_at l1.symm, e2]
        unfold ranK at hi
        exact ⟨by omega, by omega, o1, o2⟩
    · rintro ⟨l1, p1⟩
      obtain ⟨ms, x, rfl⟩ : ∃ ms x, ns = ms ++ [x] := by
        rcases List.eq_nil_or_concat ns with rfl | ⟨ms, x, rfl⟩
        · cases l1
        · exact ⟨ms, x, by rw [List.concat_eq_append]⟩
      rw [List.length_append, List.length_singleton] at l1
      have l2 : ms.length = t := by omega
      refine ⟨ms, (allTo_iff t ms).mpr ⟨l2, fun i hi => ?_⟩, ?_⟩
      · have := p1 i (by omega)
        rw [nth_app_lt (by omega), sumX_app (by omega)] at this
        exact this
      · have h := p1 t (by omega)
        have e2 := sumX_end (ms := ms) (x := x)
        rw [l2] at e2
        rw [nth_app_at l2.symm, e2] at h
        have ex : nth d.A t + ((x - nth d.A t).toNat : Int) = x := by omega
        refine mem_extK.mpr ⟨(x - nth d.A t).toNat, ?_, ?_, by rw [ex]⟩
        · unfold ranK
          omega
        · rw [ex]
          exact okE_iff.mpr ⟨h.2.2.1, h.2.2.2⟩
/-- by trying just the rows are found -/
theorem all_iff {ns : List Int} : ns ∈ allTo d d.L.length ↔ ns.length = d.L.length ∧ d.RowX (sumX ns) := by
  rw [allTo_iff]
  constructor
  · rintro ⟨l, h⟩
    have e : ∀ t, t < d.L.length → sumX ns (t + 1) - sumX ns t = nth ns t := fun t ht => by rw [sumX_succ (by omega)]; omega
    refine ⟨l, rfl, fun t ht => ?_, fun t ht => ?_, fun t ht => ?_, fun t ht => ?_⟩
    · cases t with
      | zero => exact Int.le_refl _
      | succ t => exact (h t (by omega)).2.2.1
    · cases t with
      | zero => exact Int.le_refl _
      | succ t => exact (h t (by omega)).2.2.2
    · rw [e t ht]
      exact (h t ht).1
    · rw [e t ht]
      exact (h t ht).2.1
  · rintro ⟨l, r⟩
    refine ⟨l, fun i hi => ?_⟩
    have e : sumX ns (i + 1) - sumX ns i = nth ns i := by rw [sumX_succ (by omega)]; omega
    have h1 := r.least i hi
    have h2 := r.most i hi
    rw [e] at h1 h2
    exact ⟨h1, h2, r.low (i + 1) (by omega), r.high (i + 1) (by omega)⟩
end
set_option Elab.async false
set_option linter.all false
set_option maxRecDepth 100000
set_option maxHeartbeats 4000000
set_option exponentiation.threshold 3000
structure BoxOk (ns : List Int) (d : PD) : Prop where
  a : ∀ i, i < ns.length → -5 ≤ nth d.A i
  b : ∀ i, i < ns.length → nth d.B i ≤ 5
  v : ∀ i, i < ns.length → nth d.B i - nth d.A i ≤ 4
  l : ∀ i, i < ns.length → psum ns i - 8 ≤ nth d.L i
  u : ∀ i, i < ns.length → nth d.U i ≤ psum ns i + 8
  e : ∀ x ∈ ns, -3 ≤ x ∧ x ≤ 3
section
variable {P : Program} {w : World} {K : PySem.W.Frag} {mg : Str → Option Value} {base : Heap}
def sp__law_box (K : PySem.W.Frag) : Sp := fun vs H Q _ => ∃ (ls j : Addr) (m : Int) (n : Nat), vs = [.ref j, .int m, .int 7] ∧ JarAt ls H j (n + 100) ∧ (1 ≤ m ∧ m ≤ 5) ∧
  ∀ t l1 l2 l3 l4 d ns H', Fr [j] H H' → JarAt ls H' j n → New H H' (rawN t l1 l2 l3 l4 d) → RawOk ns d → BoxOk ns d → (1 ≤ ns.length ∧ (ns.length : Int) ≤ m) → Q (.ref t) H'
theorem k__law_box (T : Tx fa fn K mg base) : Fk P w K mg base "_law_box" ["bag", "most", "far"] 4 (sp__law_box K) s__law_box "_law_box" := by
  refine T.fk 46 65 (q := "_law_box") (st := s__law_box) sc__law_box (fun _ _ _ _ _ _ us hl => match us, hl with | [_, _, _], _ => rfl) (fun vs H Q E h => ?_) (fun cdv A outer s H vs Q E hr h => ?_)
  · obtain ⟨ls, j, m, n, rfl, _⟩ := h
    rfl
  · obtain ⟨ls, j, m, n, rfl, hj, ⟨h1, h2⟩, k⟩ := h
    have p1000 : (100 : Int) < 2 ^ 1000 := by decide +kernel
    refine ⟨_, (pss_cons (ps_setLc (i := 3) (own := [("k", 11)]) (tt := tYes) (te := (tOp (rI0 fun i j => .int (i - j)) (tCall (sp__law_draw K) [] E0 (tCons (tVar 0) (tCons (tVar 2) tNil))) (tOp (rI CDivW fun i j => .int (i / j)) (tVar 2) (tC (.int 2))))) rfl sc__law_box.nd rfl rfl (sw_true rfl rfl rfl (by decide +kernel)) (pi_range1 (by rfl) (T.fr 13) (pa_cons (pe_op op_add pe_int (pe_f (k__law_draw T) hr (pa_cons (pv 0) (pa_cons (pv 1) pa_nil)))) pa_nil)) (blkOk_by (N := ["bag", "most", "far", "row", "under", "over", "low", "high", "here", "loose", "entry", "k"]) (sc := defScope s__law_box) (by decide +kernel)) (fun _ _ _ _ _ => (pg_name (i := 11) sc__law_box.nd rfl (by first | exact Or.inl rfl | exact Or.inr rfl))) (fun _ _ _ _ _ => pts_nil) (fun _ _ _ _ _ => (pe_op op_sub (pe_f (k__law_draw T) hr (pa_cons (pv 0) (pa_cons (pv 2) pa_nil))) (pe_op op_fdivW (pv 2) pe_int))))
      (pss_cons (ps_asg (pe_tup (pa_cons (pe_lst pa_nil) (pa_cons (pe_lst pa_nil) (pa_cons (pe_lst pa_nil) (pa_cons (pe_lst pa_nil) (pa_cons pe_int pa_nil)))))) (pg_tup rfl (pgs_cons (pg_name (i := 4) sc__law_box.nd rfl (by first | exact Or.inl rfl | exact Or.inr rfl)) (pgs_cons (pg_name (i := 5) sc__law_box.nd rfl (by first | exact Or.inl rfl | exact Or.inr rfl)) (pgs_cons (pg_name (i := 6) sc__law_box.nd rfl (by first | exact Or.inl rfl | exact Or.inr rfl)) (pgs_cons (pg_name (i := 7) sc__law_box.nd rfl (by first | exact Or.inl rfl | exact Or.inr rfl)) (pgs_cons (pg_name (i := 8) sc__law_box.nd rfl (by first | exact Or.inl rfl | exact Or.inr rfl)) pgs_nil)))))))
      (pss_cons (ps_set (i := 9) sc__law_box.nd rfl (by first | exact Or.inl rfl | exact Or.inr rfl) (pe_ix ix_list (pe_lst (pa_cons pe_int (pa_cons pe_int (pa_cons pe_int (pa_cons pe_int pa_nil))))) (pe_f (k__law_draw T) hr (pa_cons (pv 0) (pa_cons pe_int pa_nil))) (fun _ _ => rfl)))
      (pss_cons (ps_for PassesOwn.never rfl (pi_list (pv 3)) (pg_name (i := 10) sc__law_box.nd rfl (by first | exact Or.inl rfl | exact Or.inr rfl)) (pss_cons (ps_set (i := 8) sc__law_box.nd rfl (by first | exact Or.inl rfl | exact Or.inr rfl) (pe_op op_add (pv 8) (pv 10)))
      (pss_cons (ps_expr (pe_bm PySem.F.plainAttrs_list PySem.F.slot_list_append PySem.F.type_list_append mt_append (pv 4) (pa_cons (pe_op op_sub (pv 10) (pe_f (k__law_draw T) hr (pa_cons (pv 0) (pa_cons pe_int pa_nil)))) pa_nil)))
      (pss_cons (ps_expr (pe_bm PySem.F.plainAttrs_list PySem.F.slot_list_append PySem.F.type_list_append mt_append (pv 5) (pa_cons (pe_op op_add (pv 10) (pe_f (k__law_draw T) hr (pa_cons (pv 0) (pa_cons pe_int pa_nil)))) pa_nil)))
      (pss_cons (ps_expr (pe_bm PySem.F.plainAttrs_list PySem.F.slot_list_append PySem.F.type_list_append mt_append (pv 6) (pa_cons (pe_op op_sub (pv 8) (pe_f (k__law_draw T) hr (pa_cons (pv 0) (pa_cons (pv 9) pa_nil)))) pa_nil)))
      (pss_one (ps_expr (pe_bm PySem.F.plainAttrs_list PySem.F.slot_list_append PySem.F.type_list_append mt_append (pv 7) (pa_cons (pe_op op_add (pv 8) (pe_f (k__law_draw T) hr (pa_cons (pv 0) (pa_cons (pv 9) pa_nil)))) pa_nil)))))))))
      (pss_one (ps_ret (pe_tup (pa_cons (pe_op op_cat (pe_slice sl_list (pv 6) po_none (po_some (pe_un un_neg pe_int))) (pe_lst (pa_cons (pv 8) pa_nil))) (pa_cons (pe_op op_cat (pe_slice sl_list (pv 7) po_none (po_some (pe_un un_neg pe_int))) (pe_lst (pa_cons (pv 8) pa_nil))) (pa_cons (pv 4) (pa_cons (pv 5) pa_nil))))))))))), ?_⟩
    walk_at "ev0"
    refine ⟨ls, j, m, n + 99, rfl, hj.le (by omega), by omega, by omega, fun v H1 v0 v1 f1 q1 => ?_⟩
    have z1 := (ZJ.start hj).dips f1 q1
    walk_at "ev"
    refine ⟨by omega, by omega, ?_⟩
    refine lc_draw (fun x => -3 ≤ x ∧ x ≤ 3) (n := (1 + v).toNat) (c := 1) (m := n + 80) walk_range (by omega) (z1.le (by omega)) (fun i H' D ns R hi hl z kR => ?_) (fun dr ns H2 hl pp z2 => ?_)
    · walk_at "ev"
      refine ⟨rfl, ?_⟩
      walk_at "ev"
      refine ⟨ls, j, 7, n + 80 + 1 * ((1 + v).toNat - i) - 1, rfl, z.jar.le (by omega), by decide, by decide, fun x G x0 x1 f q => ?_⟩
      walk_at "ev"
      refine r_I (wdiv (by decide) (by decide)) ?_
      walk_at "ev"
      exact kR _ _ ⟨by omega, by omega⟩ ((z.dips f q).le (by omega))
    have hl' : 1 ≤ ns.length ∧ (ns.length : Int) ≤ m := by omega
    walk_at "ev"
    intro l3 k3
    have z3 := z2.alloc (.lst []) k3
    walk_at "ev"
    intro l4 k4
    have z4 := z3.alloc (.lst []) k4
    walk_at "ev"
    intro l1 k1
    have z5 := z4.alloc (.lst []) k1
    walk_at "ev"
    intro l2 k2
    have z6 := z5.alloc (.lst []) k2
    walk_at "ev"
    intro t0 kt0
    have z7 := (z6.alloc (.tup [.ref l3, .ref l4, .ref l1, .ref l2, .int 0]) kt0).sub (E' := [(2, l2, .lst []), (2, l1, .lst []), (2, l4, .lst []), (2, l3, .lst []), (2, dr, .lst (ns.map V.int))]) (.cons _ (List.Sublist.refl _))
    walk_at "ev"
    intro t5 k5
    have z8 := z7.alloc (.lst [.int 1, .int 2, .int 4, .int 9]) k5
    walk_at "ev"
    refine ⟨ls, j, 4, n + 79, rfl, z8.jar.le (by omega), by decide, by decide, fun x4 H4 x0 x1 f4 q4 => ?_⟩
    have z9 := z8.dips f4 q4
    obtain ⟨lo, elo, hlo⟩ := four (a := 1) (b := 2) (c := 4) (d := 9) x0 x1
    have blo : 1 ≤ lo ∧ lo ≤ 9 := by omega
    walk_at "ev"
    refine r_at elo ?_
    have z11 := z9.sub (E' := [(2, l2, .lst []), (2, l1, .lst []), (2, l4, .lst []), (2, l3, .lst []), (2, dr, .lst (ns.map V.int))]) (.cons _ (List.Sublist.refl _))
    clear z1 z2 z3 z4 z5 z6 z7 z8 z9 hlo x0 x1
    have big1 : lo < 2 ^ 1000 := by omega
    have gdr := z11.get (.tail _ (.tail _ (.tail _ (.tail _ (.head _)))))
    walk_at "ev"
    refine for_it (walk_list (xs := ns.map V.int)) (fun i σ H' => ∃ (d : PD) (v : Option V), σ = [some (.ref j), some (.int m), some (.int 7), some (.ref dr), some (.ref l3), some (.ref l4), some (.ref l1), some (.ref l2), some (.int (ns.take i).sum), some (.int lo), v, none] ∧
      ZJ ls H H' j (n + 4 * (ns.length - i)) [(2, l2, .lst (d.U.map V.int)), (2, l1, .lst (d.L.map V.int)), (2, l4, .lst (d.B.map V.int)), (2, l3, .lst (d.A.map V.int)), (2, dr, .lst (ns.map V.int))] ∧ (d.L.length = i ∧ d.U.length = i ∧ d.A.length = i ∧ d.B.length = i) ∧
      (∀ x, x < i → (nth d.L x ≤ psum ns x ∧ psum ns x - 8 ≤ nth d.L x) ∧ (psum ns x ≤ nth d.U x ∧ nth d.U x ≤ psum ns x + 8) ∧ (nth d.A x ≤ nth ns x ∧ nth ns x - 2 ≤ nth d.A x) ∧ (nth ns x ≤ nth d.B x ∧ nth d.B x ≤ nth ns x + 2))) ⟨⟨[], [], [], []⟩, none, rfl, z11.le (by omega), ⟨rfl, rfl, rfl, rfl⟩, fun x hx => absurd hx (Nat.not_lt_zero _)⟩ (fun i σ H' hi p => ?_) (fun i x σ H' H'' hi p y => ?_) (fun σ H' p => ?_)
    · obtain ⟨d, v, _, z, _⟩ := p
      exact SqL.of (z.get (.tail _ (.tail _ (.tail _ (.tail _ (.head _))))))
    · obtain ⟨d, v, rfl, z, ⟨m1, m2, m3, m4⟩, hp⟩ := p
      obtain ⟨rfl, hx⟩ := y
      obtain rfl := nth_at hx
      have hi' : i < ns.length := by simpa using hi
      walk_at "ev"
      refine ⟨ls, j, 3, n + 4 * (ns.length - i) - 1, rfl, z.jar.le (by omega), by decide, by decide, fun v1 G1 a1 b1 f1 q1 => ?_⟩
      have y1 := z.dips f1 q1
      walk_at "ev"
      have y2 := y1.set 3 (.lst (d.A.map V.int ++ [.int (nth ns i - v1)])) rfl
      walk_at "ev"
      refine ⟨ls, j, 3, n + 4 * (ns.length - i) - 2, rfl, y2.jar.le (by omega), by decide, by decide, fun v2 G2 a2 b2 f2 q2 => ?_⟩
      have y3 := y2.dips f2 q2
      walk_at "ev"
      have y4 := y3.set 2 (.lst (d.B.map V.int ++ [.int (nth ns i + v2)])) rfl
      walk_at "ev"
      refine ⟨ls, j, lo, n + 4 * (ns.length - i) - 3, rfl, y4.jar.le (by omega), by omega, big1, fun v3 G3 a3 b3 f3 q3 => ?_⟩
      have y5 := y4.dips f3 q3
      walk_at "ev"
      have y6 := y5.set 1 (.lst (d.L.map V.int ++ [.int ((ns.take i).sum + nth ns i - v3)])) rfl
      walk_at "ev"
      refine ⟨ls, j, lo, n + 4 * (ns.length - i) - 4, rfl, y6.jar.le (by omega), by omega, big1, fun v4 G4 a4 b4 f4 q4 => ?_⟩
      have y7 := y6.dips f4 q4
      walk_at "ev"
      have y8 := y7.set 0 (.lst (d.U.map V.int ++ [.int ((ns.take i).sum + nth ns i + v4)])) rfl
      refine ⟨⟨d.L ++ [(ns.take i).sum + nth ns i - v3], d.U ++ [(ns.take i).sum + nth ns i + v4], d.A ++ [nth ns i - v1], d.B ++ [nth ns i + v2]⟩, some (.int (nth ns i)), ?_, ?_, ⟨by simp [m1], by simp [m2], by simp [m3], by simp [m4]⟩, fun x hx => ?_⟩
      · rw [take_sum hi']
        rfl
      · simp only [List.map_append, List.map_cons, List.map_nil]
        exact y8.le (by omega)
      · have es : psum ns i = (ns.take i).sum + nth ns i := take_sum hi'
        rcases Nat.lt_or_ge x i with hxi | hxi
        · rw [nth_app_lt (by omega), nth_app_lt (by omega), nth_app_lt (by omega), nth_app_lt (by omega)]
          exact hp x hxi
        · have e : x = i := by omega
          subst e
          rw [nth_app_at m1.symm, nth_app_at m2.symm, nth_app_at m3.symm, nth_app_at m4.symm]
          omega
    · obtain ⟨d, v, rfl, z, ⟨m1, m2, m3, m4⟩, hp⟩ := p
      rw [List.length_map] at m1 m2 m3 m4
      have z := z.le (m := n) (by omega)
      rw [List.length_map] at hp
      have hs : (ns.take (ns.map V.int).length).sum = psum ns (ns.length - 1) := by
        unfold psum
        rw [List.length_map, show ns.length - 1 + 1 = ns.length by omega]
      rw [hs]
      generalize hS : psum ns (ns.length - 1) = S
      walk_at "ev"
      intro c1 kc1
      have eL : cutV (d.L.map V.int) none (some (-1)) = d.L.dropLast.map V.int := by rw [cut_last, List.map_dropLast]
      have eU : cutV (d.U.map V.int) none (some (-1)) = d.U.dropLast.map V.int := by rw [cut_last, List.map_dropLast]
      rw [eL]
      have w1 := z.alloc (.lst (d.L.dropLast.map V.int)) kc1
      walk_at "ev"
      intro c2 kc2
      have w2 := w1.alloc (.lst [.int S]) kc2
      walk_at "ev"
      intro c3 kc3
      have w3 := w2.alloc (.lst (d.L.dropLast.map V.int ++ [.int S])) kc3
      walk_at "ev"
      intro c4 kc4
      rw [eU]
      have w4 := w3.alloc (.lst (d.U.dropLast.map V.int)) kc4
      walk_at "ev"
      intro c5 kc5
      have w5 := w4.alloc (.lst [.int S]) kc5
      walk_at "ev"
      intro c6 kc6
      have w6 := w5.alloc (.lst (d.U.dropLast.map V.int ++ [.int S])) kc6
      walk_at "ev"
      intro c7 kc7
      have w7 := w6.alloc (.tup [.ref c3, .ref c6, .ref l3, .ref l4]) kc7
      have lL := lastL_len (L := d.L) (x := S) (by omega)
      have lU := lastL_len (L := d.U) (x := S) (by omega)
      have e1 : d.L.dropLast.map V.int ++ [V.int S] = (lastL d.L S).map V.int := by
        unfold lastL
        rw [List.map_append]
        rfl
      have e2 : d.U.dropLast.map V.int ++ [V.int S] = (lastL d.U S).map V.int := by
        unfold lastL
        rw [List.map_append]
        rfl
      simp only [e1, e2] at w7 ⊢
      have endL : nth (lastL d.L S) (ns.length - 1) = S := by
        rw [← m1]
        exact lastL_end
      have endU : nth (lastL d.U S) (ns.length - 1) = S := by
        rw [← m2]
        exact lastL_end
      have inL : ∀ i, i < ns.length → i ≠ ns.length - 1 → nth (lastL d.L S) i = nth d.L i ∧ nth (lastL d.U S) i = nth d.U i := fun i hi e => ⟨lastL_nth (by omega), lastL_nth (by omega)⟩
      have en : ∀ i, i < ns.length → -3 ≤ nth ns i ∧ nth ns i ≤ 3 := fun i hi => pp _ (nth_mem hi)
      have p160 : (16 : Int) ≤ 2 ^ 160 := by decide +kernel
      have p110 : (3 : Int) ≤ 2 ^ 110 := by decide +kernel
      refine k c7 c3 c6 l3 l4 ⟨lastL d.L S, lastL d.U S, d.A, d.B⟩ ns _ w7.fr w7.jar (w7.pick [0, 4, 1, 10, 9] rfl) ⟨by show (lastL d.L S).length = _; omega, by show (lastL d.U S).length = _; omega, m3, m4, fun i hi => ?_, fun i hi => ?_, fun i hi => (hp i hi).2.2.1.1, fun i hi => (hp i hi).2.2.2.1, by rw [hS]; exact endL, by rw [hS]; exact endU, fun i hi => ?_, fun i hi => ?_, fun x hx => ?_⟩
        ⟨fun i hi => ?_, fun i hi => ?_, fun i hi => ?_, fun i hi => ?_, fun i hi => ?_, pp⟩ hl'
      · show nth (lastL d.L S) i ≤ _
        by_cases e : i = ns.length - 1
        · subst e
          rw [endL, hS]
          exact Int.le_refl _
        · rw [(inL i hi e).1]
          exact (hp i hi).1.1
      · show _ ≤ nth (lastL d.U S) i
        by_cases e : i = ns.length - 1
        · subst e
          rw [endU, hS]
          exact Int.le_refl _
        · rw [(inL i hi e).2]
          exact (hp i hi).2.1.1
      · show nth (lastL d.U S) i - nth (lastL d.L S) i ≤ 2 ^ 160
        by_cases e : i = ns.length - 1
        · subst e
          rw [endU, endL]
          omega
        · rw [(inL i hi e).1, (inL i hi e).2]
          have := hp i hi
          omega
      · have := hp i hi
        show nth d.B i - nth d.A i ≤ 2 ^ 160
        omega
      · have := pp x hx
        omega
      · have := hp i hi
        have := en i hi
        show -5 ≤ nth d.A i
        omega
      · have := hp i hi
        have := en i hi
        show nth d.B i ≤ 5
        omega
      · have := hp i hi
        show nth d.B i - nth d.A i ≤ 4
        omega
      · show psum ns i - 8 ≤ nth (lastL d.L S) i
        by_cases e : i = ns.length - 1
        · subst e
          rw [endL, hS]
          omega
        · rw [(inL i hi e).1]
          exact (hp i hi).1.2
      · show nth (lastL d.U S) i ≤ psum ns i + 8
        by_cases e : i = ns.length - 1
        · subst e
          rw [endU, hS]
          omega
        · rw [(inL i hi e).2]
          exact (hp i hi).2.1.2
end
set_option Elab.async false
set_option linter.all false
set_option maxRecDepth 100000
set_option maxHeartbeats 4000000
set_option exponentiation.threshold 2000
/-- own bounds that are small and near one another -/
def SmC (d : PD) : Prop := ∀ i, i < d.L.length → -5 ≤ nth d.A i ∧ nth d.B i ≤ 5 ∧ nth d.B i - nth d.A i ≤ 4
theorem allTo_len5 {d : PD} (h : ∀ t, t < d.L.length → ranK d t ≤ 5) : ∀ t, t ≤ d.L.length → (allTo d t).length ≤ 5 ^ t
  | 0, _ => Nat.le_refl _
  | t + 1, ht => by
    have ih := allTo_len5 h t (by omega)
    have h1 := extF_len (h t (by omega)) (allTo d t)
    have h2 : (allTo d t).length * 5 ≤ 5 ^ t * 5 := Nat.mul_le_mul_right 5 ih
    rw [Nat.pow_succ]
    exact Nat.le_trans h1 h2
section
variable {P : Program} {w : World} {K : PySem.W.Frag} {mg : Str → Option Value} {base : Heap}
def sp__law_all (K : PySem.W.Frag) : Sp := fun vs H Q _ => ∃ (r : Addr) (d : PD), vs = [.ref r] ∧ RawAt [] H true r d ∧ d.Ok ∧ SmC d ∧ d.L.length ≤ 5 ∧ ∀ p H' (ws : List Addr), H p = none → Fr [] H H' → H' p = some (.lst (ws.map V.ref)) → LLs H H' ws (allTo d d.L.length) → Q (.ref p) H'
theorem k__law_all (T : Tx fa fn K mg base) : Fk P w K mg base "_law_all" ["box"] 1 (sp__law_all K) s__law_all "_law_all" := by
  refine T.fk 47 66 (q := "_law_all") (st := s__law_all) sc__law_all (fun _ _ _ _ _ _ us hl => match us, hl with | [_], _ => rfl) (fun vs H Q E h => ?_) (fun cdv A outer s H vs Q E hr h => ?_)
  · obtain ⟨r, d, rfl, _⟩ := h
    rfl
  · obtain ⟨r, d, rfl, ra, ok, sb, four, k⟩ := h
    obtain ⟨l1, l2, l3, l4, h0, ⟨h1, h2, h3, h4⟩, _⟩ := ra.ex
    have h0 : H r = some (.tup [.ref l1, .ref l2, .ref l3, .ref l4]) := h0
    have one := ok.one
    have lU := ok.lU
    have lA := ok.lA
    have lB := ok.lB
    have ran : ∀ t, t < d.L.length → ranK d t ≤ 5 := fun t ht => by
      have := sb t ht
      unfold ranK
      omega
    have size : ∀ t, t ≤ d.L.length → (allTo d t).length ≤ 5 ^ 5 := fun t ht => Nat.le_trans (allTo_len5 ran t ht) (Nat.pow_le_pow_right (by decide) (by omega))
    refine ⟨_, (pss_cons (ps_set (i := 1) sc__law_all.nd rfl (by first | exact Or.inl rfl | exact Or.inr rfl) (pe_lst (pa_cons (pe_tup (pa_cons (pe_lst pa_nil) (pa_cons pe_int pa_nil))) pa_nil)))
      (pss_cons (ps_for PassesOwn.never rfl (pi_range1 (by rfl) (T.fr 13) (pa_cons (pe_callB call_len_seq (by rfl) (T.fr 6) (by decide +kernel) (pa_cons (pe_ix ix_tup (pv 0) pe_int (fun _ _ => rfl)) pa_nil)) pa_nil)) (pg_name (i := 2) sc__law_all.nd rfl (by first | exact Or.inl rfl | exact Or.inr rfl)) (pss_cons (ps_set (i := 3) sc__law_all.nd rfl (by first | exact Or.inl rfl | exact Or.inr rfl) (pe_lst pa_nil))
      (pss_cons (ps_for PassesOwn.never rfl (pi_list (pv 1)) (pg_tup rfl (pgs_cons (pg_name (i := 4) sc__law_all.nd rfl (by first | exact Or.inl rfl | exact Or.inr rfl)) (pgs_cons (pg_name (i := 5) sc__law_all.nd rfl (by first | exact Or.inl rfl | exact Or.inr rfl)) pgs_nil))) (pss_one (ps_for PassesOwn.never rfl (pi_range2 (by rfl) (T.fr 13) (pa_cons (pe_ix ix_list (pe_ix ix_tup (pv 0) pe_int (fun _ _ => rfl)) (pv 2) (fun _ _ => rfl)) (pa_cons (pe_op op_add (pe_ix ix_list (pe_ix ix_tup (pv 0) pe_int (fun _ _ => rfl)) (pv 2) (fun _ _ => rfl)) pe_int) pa_nil))) (pg_name (i := 6) sc__law_all.nd rfl (by first | exact Or.inl rfl | exact Or.inr rfl)) (pss_one (ps_if (PW.pt (pw_and (pt_cmpR op_le (pe_ix ix_list (pe_ix ix_tup (pv 0) pe_int (fun _ _ => rfl)) (pv 2) (fun _ _ => rfl)) (pe_op op_add (pv 5) (pv 6)) (nomark _)) (pw_and1 (pt_cmpR op_le (pe_op op_add (pv 5) (pv 6)) (pe_ix ix_list (pe_ix ix_tup (pv 0) pe_int (fun _ _ => rfl)) (pv 2) (fun _ _ => rfl)) (nomark _))))) (pss_one (ps_expr (pe_bm PySem.F.plainAttrs_list PySem.F.slot_list_append PySem.F.type_list_append mt_append (pv 3) (pa_cons (pe_tup (pa_cons (pe_op op_cat (pv 4) (pe_lst (pa_cons (pv 6) pa_nil))) (pa_cons (pe_op op_add (pv 5) (pv 6)) pa_nil))) pa_nil)))) pss_nil)))))
      (pss_one (ps_set (i := 1) sc__law_all.nd rfl (by first | exact Or.inl rfl | exact Or.inr rfl) (pv 3))))))
      (pss_one (ps_ret (pe_lc (own := [("row", 4), ("here", 5)]) (tt := tYes) (g := (gTup K 2 (gCons (gName 4) (gCons (gName 5) gNil)))) (te := (tVar 4)) rfl sc__law_all.nd (pi_list (pv 1)) (blkOk_by (N := ["box", "rows", "k", "longer", "row", "here", "entry"]) (sc := defScope s__law_all) (by decide +kernel)) (fun _ _ _ _ _ => (pg_tup rfl (pgs_cons (pg_name (i := 4) sc__law_all.nd rfl (by first | exact Or.inl rfl | exact Or.inr rfl)) (pgs_cons (pg_name (i := 5) sc__law_all.nd rfl (by first | exact Or.inl rfl | exact Or.inr rfl)) pgs_nil)))) (fun _ _ _ _ _ => pts_nil) (fun _ _ _ _ _ => (pv 4))))))), ?_⟩
    walk_at "ev0"
    intro b0 kb0
    have z1 := (Z.start0 H).alloc (.lst []) kb0
    walk_at "ev"
    intro t0 kt0
    have z2 := z1.alloc (.tup [.ref b0, .int 0]) kt0
    walk_at "ev"
    intro f0 kf0
    have z3 := z2.alloc (.lst [.ref t0]) kf0
    have ml0 : ML H [] _ [t0] [[]] := (ML.nil (H0 := H) (J := []) (H := upd (upd (upd H b0 (.lst [])) t0 (.tup [.ref b0, .int 0])) f0 (.lst [.ref t0]))).add (ms := []) (z3.get (.tail _ (.head _))) (z3.get (.tail _ (.tail _ (.head _)))) nin kb0
    have z4 := z3.sub (E' := [(2, f0, .lst [.ref t0])]) (.cons₂ _ (List.nil_sublist _)) (by simp)
    walk_at "ev"
    rw [List.length_map]
    refine ⟨by omega, by omega, ?_⟩
    rw [Int.toNat_natCast]
    refine for_it (walk_range (lo := 0)) (fun i σ H' => ∃ (u6 u7 u8 u9 u10 : Option V) (fd : Addr) (ws : List Addr), σ = [some (.ref r), some (.ref fd), u6, u7, u8, u9, u10] ∧ Z H H' [(2, fd, .lst (ws.map V.ref))] ∧ ML H [] H' ws (allTo d i)) ⟨none, none, none, none, none, f0, [t0], rfl, z4, ml0⟩ (fun _ _ _ _ _ => trivial) (fun i x σ H' H'' hi pv y => ?_) (fun σ H' pv => ?_)
    · obtain ⟨u6, u7, u8, u9, u10, fd, ws, rfl, z, ml⟩ := pv
      obtain ⟨rfl, rfl⟩ := y
      have e1 : (0 : Int) + (i : Int) = (i : Int) := by omega
      simp only [e1]
      clear z1 z2 z3 z4 ml0 kb0 kt0 kf0
      walk_at "ev"
      intro lg klg
      have z5 := z.alloc (.lst []) klg
      have ml5 := (ml.newJ klg).more (o := .lst []) klg
      walk_at "ev"
      have wl : ws.length ≤ 5 ^ 5 := by rw [ml.len]; exact size i (by omega)
      refine for_it (walk_list (xs := ws.map V.ref)) (fun j σ H' => ∃ (u8 u9 u10 : Option V) (us : List Addr), σ = [some (.ref r), some (.ref fd), some (.int i), some (.ref lg), u8, u9, u10] ∧ Z H H' [(2, lg, .lst (us.map V.ref)), (2, fd, .lst (ws.map V.ref))] ∧ ML H [lg] H' ws (allTo d i) ∧ ML H [lg] H' us (extF d i ((allTo d i).take j))) ⟨u8, u9, u10, [], rfl, z5, ml5, ML.nil⟩ (fun j σ H' _ pv => ?_) (fun j x σ H3 H4 hj pv y => ?_) (fun σ H3 pv => ?_)
      · obtain ⟨_, _, _, _, _, z, _⟩ := pv
        exact SqL.of (z.get (.tail _ (.head _)))
      · obtain ⟨u8, u9, u10, us, rfl, z, mw, mu⟩ := pv
        obtain ⟨rfl, hx⟩ := y
        rw [List.length_map] at hj
        obtain ⟨t, b, ms, g1, g2, g3, g4, _, nb⟩ := mw.get hj
        have ml9 := ((allTo_iff i ms).mp (List.mem_of_getElem? g2)).1
        have bl : b ≠ lg := fun e => nb (by rw [e]; exact List.mem_singleton_self _)
        rw [List.getElem?_map, g1] at hx
        obtain rfl := Option.some.inj hx
        clear z5 ml5
        have old := fun {a : Addr} {o : HO} (h : H a = some o) => z.keep h (by simp)
        have k3 := old h3
        have k4 := old h4
        walk_at "ev"
        refine r_at (atN (by omega)) ?_
        walk_at "ev"
        refine r_at (atN (by omega)) ?_
        walk_at "ev"
        have sbi := sb i (by omega)
        have abi := ok.ab i (by omega)
        refine ⟨⟨by omega, by omega, by omega, by omega⟩, ?_⟩
        have er : (nth d.B i + 1 - nth d.A i).toNat = ranK d i := rfl
        rw [er]
        clear old k3 k4
        have rani := ran i (by omega)
        refine for_it (walk_range (lo := nth d.A i) (n := ranK d i)) (fun m σ H' => ∃ (u10 : Option V) (us : List Addr), σ = [some (.ref r), some (.ref fd), some (.int i), some (.ref lg), some (.ref b), some (.int ms.sum), u10] ∧ Z H H' [(2, lg, .lst (us.map V.ref)), (2, fd, .lst (ws.map V.ref))] ∧ ML H [lg] H' ws (allTo d i) ∧ ML H [lg] H' us (extF d i ((allTo d i).take j) ++ extK d i ms m) ∧ H' b = some (.lst (ms.map V.int))) ⟨u10, us, rfl, z, mw, by rw [extK_zero, List.append_nil]; exact mu, g4⟩ (fun _ _ _ _ _ => trivial) (fun m x σ H5 H6 hm pv y => ?_) (fun σ H5 pv => ?_)
        · obtain ⟨u10, us, rfl, z, mw, mu, gb⟩ := pv
          obtain ⟨rfl, rfl⟩ := y
          have old := fun {a : Addr} {o : HO} (h : H a = some o) => z.keep h (by simp)
          have k1 := old h1
          have k2 := old h2
          have ul : us.length ≤ 60000 := by
            have h1 := mu.len
            have h2 := extF_len rani ((allTo d i).take j)
            have h3 := extK_len (d := d) (t := i) (ms := ms) (k := m)
            rw [List.length_append] at h1
            rw [List.length_take] at h2
            have h5 : min j (allTo d i).length * 5 ≤ j * 5 := Nat.mul_le_mul_right 5 (Nat.min_le_left _ _)
            have h6 : 5 ^ 5 = 3125 := rfl
            omega
          walk_at "ev"
          refine r_at (atN (by omega)) ?_
          walk_at "ev"
          refine r_ite (fun c1 => ?_) (fun c1 => ?_)
          rotate_left
          · walk_at "ev"
            refine ⟨_, us, rfl, z, mw, ?_, gb⟩
            rw [extK_no (fun h => c1 (okE_iff.mp h).1)]
            exact mu
          walk_at "ev"
          refine r_at (atN (by omega)) ?_
          walk_at "ev"
          refine r_ite (fun c2 => ?_) (fun c2 => ?_)
          rotate_left
          · walk_at "ev"
            refine ⟨_, us, rfl, z, mw, ?_, gb⟩
            rw [extK_no (fun h => c2 (okE_iff.mp h).2)]
            exact mu
          clear old k1 k2
          walk_at "ev"
          intro s1 ks1
          have w1 := z.alloc (.lst [.int (nth d.A i + (m : Int))]) ks1
          refine r_cat ((Fr.refl _).new ks1 _ _ nin gb) (w1.get (.head _)) (small1000' (by rw [List.length_map]; simp; omega)) fun p kp => ?_
          have w2 := w1.alloc (.lst (ms.map V.int ++ [.int (nth d.A i + (m : Int))])) kp
          walk_at "ev"
          intro tt kt
          have w3 := w2.alloc (.tup [.ref p, .int (ms.sum + (nth d.A i + (m : Int)))]) kt
          have glg := w3.get (.tail _ (.tail _ (.tail _ (.head _))))
          have mw3 := (((mw.more (o := .lst [.int (nth d.A i + (m : Int))]) ks1).more (o := .lst (ms.map V.int ++ [.int (nth d.A i + (m : Int))])) kp).more (o := .tup [.ref p, .int (ms.sum + (nth d.A i + (m : Int)))]) kt).put (o := .lst (us.map V.ref ++ [.ref tt])) (List.mem_singleton_self _) glg
          have es : (ms ++ [nth d.A i + (m : Int)]).sum = ms.sum + (nth d.A i + (m : Int)) := by rw [List.sum_append]; simp
          have mu3 := ((((mu.more (o := .lst [.int (nth d.A i + (m : Int))]) ks1).more (o := .lst (ms.map V.int ++ [.int (nth d.A i + (m : Int))])) kp).more (o := .tup [.ref p, .int (ms.sum + (nth d.A i + (m : Int)))]) kt).add (w := tt) (b := p) (ms := ms ++ [nth d.A i + (m : Int)]) (by rw [es]; exact w3.get (.head _)) (by rw [List.map_append]; exact w3.get (.tail _ (.head _))) (fun z => w3.ne 3 1 rfl rfl (by decide) (List.mem_singleton.mp z)) (w3.fresh (2, p, _) (.tail _ (.head _)) rfl)).put (o := .lst (us.map V.ref ++ [.ref tt])) (List.mem_singleton_self _) glg
          have w4 := w3.set 3 (.lst (us.map V.ref ++ [.ref tt])) rfl (.inr rfl)
          have gb4 := ((((Fr.refl _).new ks1 (o := .lst [.int (nth d.A i + (m : Int))])).new kp (o := .lst (ms.map V.int ++ [.int (nth d.A i + (m : Int))]))).new kt (o := .tup [.ref p, .int (ms.sum + (nth d.A i + (m : Int)))])) _ _ nin gb
          walk_at "ev"
          refine ⟨_, us ++ [tt], rfl, ?_, mw3, ?_, ?_⟩
          · rw [List.map_append]
            exact w4.sub (.cons _ (.cons _ (.cons _ (List.Sublist.refl _)))) (by simp)
          · rw [extK_yes (okE_iff.mpr ⟨c1, c2⟩), ← List.append_assoc]
            exact mu3
          · rw [upd_ne bl]
            exact gb4
        · obtain ⟨u10, us, rfl, z, mw, mu, gb⟩ := pv
          walk_at "ev"
          exact ⟨_, _, _, us, rfl, z, mw, by rw [extF_succ g2]; exact mu⟩
      · obtain ⟨u8, u9, u10, us, rfl, z, mw, mu⟩ := pv
        rw [List.length_map, mw.len, List.take_length] at mu
        walk_at "ev"
        exact ⟨_, _, _, _, _, lg, us, rfl, z.sub (.cons₂ _ (.cons _ (List.Sublist.refl _))) (by simp), mu.any⟩
    · obtain ⟨u6, u7, u8, u9, u10, fd, ws, rfl, z, ml⟩ := pv
      have wl : ws.length ≤ 5 ^ 5 := by rw [ml.len]; exact size _ (Nat.le_refl _)
      have gfd := z.get (.head _)
      obtain ⟨bs, bl, bt, ll⟩ := ml.lists
      walk_at "ev"
      refine lc_pure (walk_list (xs := ws.map V.ref)) (fun i => .ref (bs.getD i 0)) (by rw [List.length_map]; omega) (fun H' e => e.sql (SqL.of gfd) nin) (fun i H' x H'' y => by rw [y.1]; exact Fr.refl _) (fun i x H' H'' R hi e y kR => ?_) (fun D H2 hD e hD' => ?_)
      · obtain ⟨rfl, hx⟩ := y
        rw [List.length_map] at hi
        rw [List.getElem?_map, List.getElem?_eq_getElem hi] at hx
        obtain rfl := Option.some.inj hx
        have gt := e _ _ nin (bt i _ (List.getElem?_eq_getElem hi))
        walk_at "ev"
        refine ⟨rfl, ?_⟩
        walk_at "ev"
        exact kR _ (Fr.refl _)
      rw [List.length_map, ← bl] at hD'
      have eD : (List.range bs.length).map (fun i => V.ref (bs.getD i 0)) = bs.map V.ref := by
        refine List.ext_getElem (by simp) fun i h1 h2 => ?_
        rw [List.getElem_map, List.getElem_map, List.getElem_range, List.getD_eq_getElem?_getD, List.getElem?_eq_getElem (by simpa using h1)]
        rfl
      rw [eD] at hD'
      exact k D H2 bs (z.none hD) ((z.fr0 (by simp)).trans e) hD' (ll.fr e)
end
set_option Elab.async false
set_option linter.all false
set_option maxRecDepth 100000
set_option maxHeartbeats 4000000
set_option exponentiation.threshold 2000
def LP (H : Hp) (zs : List (Addr × List Int)) : Prop := ∀ q ∈ zs, H q.1 = some (.lst (q.2.map V.int))
abbrev refP (zs : List (Addr × List Int)) : List V := zs.map fun q => .ref q.1
theorem LP.fr {H H' : Hp} {zs : List (Addr × List Int)} (m : LP H zs) (f : Fr [] H H') : LP H' zs := fun q hq => f _ _ nin (m q hq)
theorem LP.sub {H : Hp} {zs ys : List (Addr × List Int)} (m : LP H zs) (s : ys.Sublist zs) : LP H ys := fun q hq => m q (s.subset hq)
theorem LP.ll {H : Hp} : ∀ {zs : List (Addr × List Int)}, LP H zs → LLAt H (refP zs) (zs.map Prod.snd)
  | [], _ => .nil
  | q :: zs, m => .cons (m q List.mem_cons_self) (LP.ll fun p hp => m p (List.mem_cons_of_mem _ hp))
theorem LLs.lp {H0 H : Hp} {ws : List Addr} {xs : List (List Int)} (m : LLs H0 H ws xs) : LP H (ws.zip xs) ∧ ws.map V.ref = refP (ws.zip xs) ∧ (ws.zip xs).map Prod.snd = xs := by
  have l := m.len
  refine ⟨fun q hq => ?_, ?_, ?_⟩
  · obtain ⟨i, hi, e⟩ := List.mem_iff_getElem.mp hq
    rw [List.getElem_zip] at e
    rw [List.length_zip] at hi
    subst e
    have h := (m.at_ i _ (List.getElem?_eq_getElem (show i < ws.length by omega))).1
    rw [List.getD_eq_getElem?_getD, List.getElem?_eq_getElem (show i < xs.length by omega)] at h
    exact h
  · unfold refP
    rw [show (fun q : Addr × List Int => V.ref q.1) = V.ref ∘ Prod.fst from rfl, ← List.map_map, List.map_fst_zip (by omega)]
  · rw [List.map_snd_zip (by omega)]
/-- the sum of squares -/
def sqS (r : List Int) : Int := (r.map fun x => x * x).sum
/-- those with the least sum of squares -/
def minL (xs : List (List Int)) : List (List Int) := xs.filter fun r => decide (∀ q ∈ xs, sqS r ≤ sqS q)
theorem filt_snd {p : List Int → Bool} (zs : List (Addr × List Int)) : (zs.filter fun q => p q.2).map Prod.snd = (zs.map Prod.snd).filter p := by
  rw [List.filter_map]
  rfl
section
variable {P : Program} {w : World} {K : PySem.W.Frag} {mg : Str → Option Value} {base : Heap}
def sp__law_squares (K : PySem.W.Frag) : Sp := fun vs H Q _ => ∃ (a : Addr) (r : List Int), vs = [.ref a] ∧ H a = some (.lst (r.map V.int)) ∧ r.length ≤ 1000 ∧ (∀ x ∈ r, -100 ≤ x ∧ x ≤ 100) ∧ ∀ H', Fr [] H H' → Q (.int (sqS r)) H'
theorem k__law_squares (T : Tx fa fn K mg base) : Fk P w K mg base "_law_squares" ["row"] 1 (sp__law_squares K) s__law_squares "_law_squares" := by
  refine T.fk 48 67 (q := "_law_squares") (st := s__law_squares) sc__law_squares (fun _ _ _ _ _ _ us hl => match us, hl with | [_], _ => rfl) (fun vs H Q E h => ?_) (fun cdv A outer s H vs Q E hr h => ?_)
  · obtain ⟨a, r, rfl, _⟩ := h
    rfl
  · obtain ⟨a, r, rfl, ha, hl, hb, k⟩ := h
    refine ⟨_, (pss_one (ps_ret (pe_callB (cr_sum rfl) (by rfl) (T.fr 30) (by decide +kernel) (pa_cons (pe_lc (own := [("entry", 1)]) (tt := tYes) (te := (tOp (rI CMulW fun i j => .int (i * j)) (tVar 1) (tVar 1))) rfl sc__law_squares.nd (pi_list (pv 0)) (blkOk_by (N := ["row", "entry"]) (sc := defScope s__law_squares) (by decide +kernel)) (fun _ _ _ _ _ => (pg_name (i := 1) sc__law_squares.nd rfl (by first | exact Or.inl rfl | exact Or.inr rfl))) (fun _ _ _ _ _ => pts_nil) (fun _ _ _ _ _ => (pe_op op_mulW (pv 1) (pv 1)))) pa_nil)))), ?_⟩
    walk_at "ev0"
    refine lc_map (ns := r) (fun x => x * x) (SqL.of ha) (by omega) (fun _ => rfl) (fun i H' R hi e kR => ?_) (fun D H1 hD e hD' => ?_)
    · have b := hb _ (nth_mem hi)
      walk_at "ev"
      refine r_I (wide_mul (a := 7) (b := 7) (natAbs_lt (by omega) (by omega)) (natAbs_lt (by omega) (by omega)) (by decide) (by decide) (by decide)) ?_
      exact kR _ (Fr.refl _)
    walk_at "ev"
    exact k _ e
def sp__law_best (K : PySem.W.Frag) : Sp := fun vs H Q _ => ∃ (a : Addr) (zs : List (Addr × List Int)), vs = [.ref a] ∧ H a = some (.lst (refP zs)) ∧ LP H zs ∧ (0 < zs.length ∧ zs.length ≤ 10000) ∧ (∀ q ∈ zs, q.2.length ≤ 1000 ∧ ∀ x ∈ q.2, -100 ≤ x ∧ x ≤ 100) ∧
  ∀ D ys H', H D = none → Fr [] H H' → H' D = some (.lst (refP ys)) → ys.Sublist zs → ys.map Prod.snd = minL (zs.map Prod.snd) → Q (.ref D) H'
theorem k__law_best (T : Tx fa fn K mg base) : Fk P w K mg base "_law_best" ["rows"] 3 (sp__law_best K) s__law_best "_law_best" := by
  refine T.fk 49 68 (q := "_law_best") (st := s__law_best) sc__law_best (fun _ _ _ _ _ _ us hl => match us, hl with | [_], _ => rfl) (fun vs H Q E h => ?_) (fun cdv A outer s H vs Q E hr h => ?_)
  · obtain ⟨a, zs, rfl, _⟩ := h
    rfl
  · obtain ⟨a, zs, rfl, ha, lp, ⟨hl0, hl⟩, hb, k⟩ := h
    refine ⟨_, (pss_cons (ps_set (i := 1) sc__law_best.nd rfl (by first | exact Or.inl rfl | exact Or.inr rfl) (pe_callB (cr_min rfl) (by rfl) (T.fr 15) (by decide +kernel) (pa_cons (pe_lc (own := [("row", 2)]) (tt := tYes) (te := (tCall (sp__law_squares K) [] E0 (tCons (tVar 2) tNil))) rfl sc__law_best.nd (pi_list (pv 0)) (blkOk_by (N := ["rows", "least", "row"]) (sc := defScope s__law_best) (by decide +kernel)) (fun _ _ _ _ _ => (pg_name (i := 2) sc__law_best.nd rfl (by first | exact Or.inl rfl | exact Or.inr rfl))) (fun _ _ _ _ _ => pts_nil) (fun _ _ _ _ _ => (pe_f (k__law_squares T) hr (pa_cons (pv 2) pa_nil)))) pa_nil)))
      (pss_one (ps_ret (pe_lc (own := [("row", 2)]) (tt := (tTest (tOp rEq (tCall (sp__law_squares K) [] E0 (tCons (tVar 2) tNil)) (tVar 1)))) (te := (tVar 2)) rfl sc__law_best.nd (pi_list (pv 0)) (blkOk_by (N := ["rows", "least", "row"]) (sc := defScope s__law_best) (by decide +kernel)) (fun _ _ _ _ _ => (pg_name (i := 2) sc__law_best.nd rfl (by first | exact Or.inl rfl | exact Or.inr rfl))) (fun _ _ _ _ _ => (pts_one (pt_cmpR op_eq (pe_f (k__law_squares T) hr (pa_cons (pv 2) pa_nil)) (pv 1) (nomark _)))) (fun _ _ _ _ _ => (pv 2)))))), ?_⟩
    walk_at "ev0"
    have at_ : ∀ (i : Nat) (x : V), (refP zs)[i]? = some x → ∃ h : i < zs.length, x = .ref zs[i].1 := fun i x h => by
      have hi := (List.getElem?_eq_some_iff.mp h).1
      rw [List.length_map] at hi
      rw [List.getElem?_map, List.getElem?_eq_getElem hi] at h
      exact ⟨hi, (Option.some.inj h).symm⟩
    have gd : ∀ i (h : i < zs.length), zs.getD i (0, []) = zs[i] := fun i h => by
      rw [List.getD_eq_getElem?_getD, List.getElem?_eq_getElem h]
      rfl
    refine lc_pure (walk_list (xs := refP zs)) (fun i => .int (sqS (zs.getD i (0, [])).2)) (by rw [List.length_map]; omega) (fun H' e => e.sql (SqL.of ha) nin) (fun i H' x H'' y => by rw [y.1]; exact Fr.refl _) (fun i x H' H'' R hi e y kR => ?_) (fun D H1 hD e1 hD' => ?_)
    · obtain ⟨rfl, hx⟩ := y
      obtain ⟨hi2, rfl⟩ := at_ i x hx
      rw [gd i hi2] at kR
      have hm := List.getElem_mem hi2
      walk_at "ev"
      refine ⟨rfl, ?_⟩
      walk_at "ev"
      refine ⟨_, _, rfl, e _ _ nin (lp _ hm), (hb _ hm).1, (hb _ hm).2, fun H3 f3 => ?_⟩
      exact kR _ f3
    have gD : H1 D = some (.lst ((zs.map fun q => sqS q.2).map V.int)) := by
      rw [hD', List.length_map, List.map_map]
      congr 2
      refine List.ext_getElem (by simp) fun i h1 h2 => ?_
      rw [List.getElem_map, List.getElem_map, List.getElem_range, gd i (by simpa using h1)]
      rfl
    obtain ⟨m, hm1, hm2⟩ := min_ex (ns := zs.map fun q => sqS q.2) (by rw [List.length_map]; exact hl0)
    have ga := e1 _ _ nin ha
    have z1 := (Z.start0 H).comp e1 hD gD
    walk_at "ev"
    refine r_minM (SqL.of gD) hm1 hm2 ?_
    walk_at "ev"
    refine lc_filt (walk_list (xs := refP zs)) (fun i => .ref (zs.getD i (0, [])).1) (fun i => decide (sqS (zs.getD i (0, [])).2 = m)) (by rw [List.length_map]; omega) (fun H' e => e.sql (SqL.of ga) nin) (fun i H' x H'' y => by rw [y.1]; exact Fr.refl _) (fun i x H' H'' R N hi e y kR kN => ?_) (fun D2 H2 hD2 e2 hD2' => ?_)
    · obtain ⟨rfl, hx⟩ := y
      obtain ⟨hi2, rfl⟩ := at_ i x hx
      rw [gd i hi2] at kR kN
      have hm := List.getElem_mem hi2
      walk_at "ev"
      refine ⟨rfl, ?_⟩
      walk_at "ev"
      refine ⟨_, _, rfl, (e1.trans e) _ _ nin (lp _ hm), (hb _ hm).1, (hb _ hm).2, fun H3 f3 => ?_⟩
      walk_at "ev"
      by_cases c : sqS zs[i].2 = m
      · rw [if_pos (by rw [c]; simp)]
        walk_at "ev"
        exact kR (decide_eq_true c) _ f3
      · rw [if_neg (by simp [c])]
        exact kN (decide_eq_false c) _ f3
    rw [List.length_map, filt_list (0, []) (fun q : Addr × List Int => decide (sqS q.2 = m)) (fun q => V.ref q.1)] at hD2'
    refine k D2 _ H2 (e1.none hD2) (e1.trans e2) hD2' List.filter_sublist ?_
    rw [filt_snd (p := fun r => decide (sqS r = m))]
    unfold minL
    refine List.filter_congr fun r hr => ?_
    obtain ⟨q, hq, rfl⟩ := List.mem_map.mp hr
    rw [decide_eq_decide]
    constructor
    · rintro e q' hq'
      obtain ⟨p, hp, rfl⟩ := List.mem_map.mp hq'
      rw [e]
      exact hm2 _ (List.mem_map.mpr ⟨p, hp, rfl⟩)
    · intro h
      obtain ⟨p, hp, e⟩ := List.mem_map.mp hm1
      have h1 := h p.2 (List.mem_map.mpr ⟨p, hp, rfl⟩)
      have h2 := hm2 _ (List.mem_map.mpr ⟨q, hq, rfl⟩)
      have e : sqS p.2 = m := e
      have h2 : m ≤ sqS q.2 := h2
      omega
end
set_option Elab.async false
set_option linter.all false
set_option maxRecDepth 100000
set_option maxHeartbeats 4000000
set_option exponentiation.threshold 3000
def wayI (up : Bool) : Int := if up = true then -1 else 1
section
variable {d : PD} {t : Nat} {up : Bool} {r b : Int}
theorem room_bd (ok : d.Ok) (sm : d.Sm) (h1 : 1 ≤ t) (h2 : t < d.L.length) (h : IsRoom d d t up r) : 0 ≤ r ∧ r ≤ 2 ^ 182 := by
  have lU := ok.lU
  have s1 := sm.l (nth d.L (t - 1)) (mem_nthL (by omega))
  have s2 := sm.u (nth d.U (t - 1)) (mem_nthL (by omega))
  have g1 := loAt1 (d := d) h1
  have g2 := hiAt1 (d := d) h1
  have p : (2 : Int) ^ 180 + 2 ^ 180 ≤ 2 ^ 182 := by decide +kernel
  unfold Ev.Sm at s1 s2
  cases up with
  | true =>
    obtain ⟨ns, tb, rfl⟩ := h
    have := tb.best.row.low t (by omega)
    have := tb.best.row.high t (by omega)
    omega
  | false =>
    obtain ⟨ns, tb, rfl⟩ := h
    have := tb.best.row.low t (by omega)
    have := tb.best.row.high t (by omega)
    omega
theorem moved_room (ok : d.Ok) (has : d.Has) (bd : d.Bd) (h1 : 1 ≤ t) (h2 : t < d.L.length) (h : IsRoom d d t up r) (b0 : 0 ≤ b) (b1 : b ≤ r) :
    (d.moved t up (wayI up * b)).Ok ∧ (d.moved t up (wayI up * b)).Has ∧ (d.moved t up (wayI up * b)).Bd ∧ (∀ ns, TopBest d ns → TopBest (d.moved t up (wayI up * b)) ns) ∧ (∀ bs, BotBest d bs → BotBest (d.moved t up (wayI up * b)) bs) ∧ (∀ Y, (d.moved t up (wayI up * b)).BestX Y ↔ d.BestX Y) := by
  have lU := ok.lU
  have g1 := loAt1 (d := d) h1
  have g2 := hiAt1 (d := d) h1
  have fin : ∀ e : PD, e.Ok → Inn d e t → (∀ X, d.BestX X → e.lo t ≤ X t ∧ X t ≤ e.hi t) → e.Ok ∧ e.Has ∧ e.Bd ∧ (∀ ns, TopBest d ns → TopBest e ns) ∧ (∀ bs, BotBest d bs → BotBest e bs) ∧ (∀ Y, e.BestX Y ↔ d.BestX Y) := fun e oke inn hh => by
    have same := inn.same ok oke has hh
    obtain ⟨X, x⟩ := has.best
    exact ⟨oke, ⟨X, ((same X).mpr x).row⟩, inn.bd bd, fun ns tb => tb.to same inn.len, fun bs bb => bb.to same inn.len, same⟩
  cases up with
  | true =>
    obtain ⟨ns, tb, rfl⟩ := h
    have e1 : wayI true * b = -b := by show (-1 : Int) * b = -b; omega
    rw [e1]
    have l := tb.best.row.low t (by omega)
    refine fin _ (ok.setU h1 h2 (by omega)) (inn_setU ok h1 h2 (by omega)) fun X x => ?_
    have x1 := x.row.low t (by omega)
    have x2 := tb.top X x t (by omega)
    rw [loAt1 h1, hiAt1 h1]
    constructor
    · show nth d.L (t - 1) ≤ X t
      omega
    · show X t ≤ nth (d.U.set (t - 1) _) (t - 1)
      rw [nth_set_at (by omega)]
      omega
  | false =>
    obtain ⟨ns, tb, rfl⟩ := h
    have e1 : wayI false * b = b := by show (1 : Int) * b = b; omega
    rw [e1]
    have l := tb.best.row.high t (by omega)
    refine fin _ (ok.setL h1 h2 (by omega)) (inn_setL h1 h2 (by omega)) fun X x => ?_
    have x1 := x.row.high t (by omega)
    have x2 := tb.bot X x t (by omega)
    rw [loAt1 h1, hiAt1 h1]
    constructor
    · show nth (d.L.set (t - 1) _) (t - 1) ≤ X t
      rw [nth_set_at (by omega)]
      omega
    · show X t ≤ nth d.U (t - 1)
      omega
end
theorem bd_of_sm {d : PD} (ok : d.Ok) (sm : d.Sm) : d.Bd := fun i hi => by
  have lA := ok.lA
  have lB := ok.lB
  have h3 := sm.a (nth d.A i) (mem_nthL (by omega))
  have h4 := sm.b (nth d.B i) (mem_nthL (by omega))
  have e1 : d.a i = nth d.A i := rfl
  have e2 : d.b i = nth d.B i := rfl
  have e : (2 : Int) ^ 180 ≤ 2 ^ 1000 := by decide +kernel
  show -(2 ^ 1000) ≤ nth d.A i ∧ nth d.A i ≤ 2 ^ 1000 ∧ -(2 ^ 1000) ≤ nth d.B i ∧ nth d.B i ≤ 2 ^ 1000
  unfold Ev.Sm at *
  omega
theorem eqv_ints (ns ms : List Int) : PyData.eqv (.list (ns.map PyData.int)) (.list (ms.map PyData.int)) = decide (ns = ms) := by
  rw [PyData.eqv, PySem.W.ked_eqvAll]
theorem eqv_ll : ∀ xs ys : List (List Int), PyData.eqvAll (xs.map fun ns => .list (ns.map PyData.int)) (ys.map fun ns => .list (ns.map PyData.int)) = decide (xs = ys)
  | [], [] => rfl
  | [], _ :: _ => rfl
  | _ :: _, [] => rfl
  | x :: xs, y :: ys => by
    rw [List.map_cons, List.map_cons, PyData.eqvAll, eqv_ints, eqv_ll xs ys]
    by_cases c : x = y
    · by_cases g : xs = ys
      · simp [c, g]
      · simp [c, g]
    · simp [c]
theorem depth_ll : ∀ r : List (List Int), PyData.depthAll (r.map fun ns => .list (ns.map PyData.int)) ≤ 1
  | [] => Nat.zero_le _
  | p :: r => by
    have := depth_ll r
    rw [List.map_cons, PyData.depthAll]
    have e : (PyData.list (p.map PyData.int)).depth = 1 := by rw [PyData.depth, depth_ints]
    omega
theorem shaped_ll (r : List (List Int)) : SeqAt.shaped (llD r) = true := by
  have := depth_ll r
  unfold SeqAt.shaped
  rw [PyData.canLay0, canLay_ll, PyData.depth, decide_eq_true (by omega)]
  rfl
theorem r_neLD {K : PySem.W.Frag} {H : Hp} {Q : VK} {a b : Addr} {vs us : List V} {xs ys : List (List Int)} (ha : H a = some (.lst vs)) (hb : H b = some (.lst us)) (hx : LLAt H vs xs) (hy : LLAt H us ys) (q : Q (.bl (!decide (xs = ys))) H) : rNeD K (.ref a) (.ref b) H Q := by
  refine ⟨llD xs, llD ys, .lst (SqL.of ha) hx.dp, .lst (SqL.of hb) hy.dp, shaped_ll _, shaped_ll _, ?_⟩
  rw [PyData.eqv, eqv_ll]
  exact q
theorem r_eqLD {K : PySem.W.Frag} {H : Hp} {Q : VK} {a b : Addr} {vs us : List V} {xs ys : List (List Int)} (ha : H a = some (.lst vs)) (hb : H b = some (.lst us)) (hx : LLAt H vs xs) (hy : LLAt H us ys) (q : Q (.bl (decide (xs = ys))) H) : rEqD K (.ref a) (.ref b) H Q := by
  refine ⟨llD xs, llD ys, .lst (SqL.of ha) hx.dp, .lst (SqL.of hb) hy.dp, shaped_ll _, shaped_ll _, ?_⟩
  rw [PyData.eqv, eqv_ll]
  exact q
theorem moved_len {d : PD} {t : Nat} {up : Bool} {y : Int} : (d.moved t up y).L.length = d.L.length ∧ (d.moved t up y).U.length = d.U.length := by
  cases up with
  | true => exact ⟨rfl, List.length_set⟩
  | false => exact ⟨List.length_set, rfl⟩
theorem moved_ok {d : PD} (ok : d.Ok) {t : Nat} {up : Bool} {y : Int} (h1 : 1 ≤ t) (h2 : t < d.L.length) (h : nth (d.moved t up y).L (t - 1) ≤ nth (d.moved t up y).U (t - 1)) : (d.moved t up y).Ok := by
  have lU := ok.lU
  cases up with
  | true =>
    have h : nth d.L (t - 1) ≤ nth (d.U.set (t - 1) (nth d.U (t - 1) + y)) (t - 1) := h
    rw [nth_set_at (by omega)] at h
    exact ok.setU h1 h2 h
  | false =>
    have h : nth (d.L.set (t - 1) (nth d.L (t - 1) + y)) (t - 1) ≤ nth d.U (t - 1) := h
    rw [nth_set_at (by omega)] at h
    exact ok.setL h1 h2 h
theorem moved_bd {d : PD} (bd : d.Bd) {t : Nat} {up : Bool} {y : Int} : (d.moved t up y).Bd := fun i hi => by
  rw [moved_len.1] at hi
  cases up
  · exact bd i hi
  · exact bd i hi
theorem moved_AB {d : PD} {t : Nat} {up : Bool} {y : Int} : (d.moved t up y).A = d.A ∧ (d.moved t up y).B = d.B := by cases up <;> exact ⟨rfl, rfl⟩
set_option Elab.async false
set_option linter.all false
set_option maxRecDepth 100000
set_option maxHeartbeats 4000000
set_option exponentiation.threshold 2000
def boxTo (A B : List Int) : Nat → List (List Int)
  | 0 => [[]]
  | t + 1 => (boxTo A B t).flatMap fun ms => (List.range (nth B t + 1 - nth A t).toNat).map fun i : Nat => ms ++ [nth A t + (i : Int)]
def preB (d : PD) (ns : List Int) : Bool := (List.range ns.length).all fun i => decide (nth d.L i ≤ sumX ns (i + 1)) && decide (sumX ns (i + 1) ≤ nth d.U i)
theorem boxTo_len {A B : List Int} : ∀ t, ∀ ns ∈ boxTo A B t, ns.length = t
  | 0, ns, h => by
    rw [List.mem_singleton.mp h]
    rfl
  | t + 1, ns, h => by
    obtain ⟨ms, hm, hn⟩ := List.mem_flatMap.mp h
    obtain ⟨i, _, rfl⟩ := List.mem_map.mp hn
    rw [List.length_append, boxTo_len t ms hm]
    rfl
theorem preB_app {d : PD} {ms : List Int} {x : Int} : preB d (ms ++ [x]) = (preB d ms && okE d ms.length ms.sum x) := by
  unfold preB
  rw [List.length_append, List.length_singleton, List.range_succ, List.all_append]
  congr 1
  · refine Bool.eq_iff_iff.mpr ?_
    rw [List.all_eq_true, List.all_eq_true]
    constructor
    · intro h i hi
      have := h i hi
      rw [sumX_app (by have := List.mem_range.mp hi; omega)] at this
      exact this
    · intro h i hi
      have := h i hi
      rw [sumX_app (by have := List.mem_range.mp hi; omega)]
      exact this
  · rw [List.all_cons, List.all_nil, Bool.and_true, sumX_end]
    rfl
theorem allTo_box {d : PD} : ∀ t, allTo d t = (boxTo d.A d.B t).filter (preB d)
  | 0 => by
    show [[]] = _
    rw [show boxTo d.A d.B 0 = [[]] from rfl, List.filter_cons_of_pos (by rfl)]
    rfl
  | t + 1 => by
    show extF d t (allTo d t) = ((boxTo d.A d.B t).flatMap fun ms => (List.range (nth d.B t + 1 - nth d.A t).toNat).map fun i : Nat => ms ++ [nth d.A t + (i : Int)]).filter (preB d)
    rw [allTo_box t]
    have hl := boxTo_len (A := d.A) (B := d.B) t
    generalize boxTo d.A d.B t = l at hl
    induction l with
    | nil => rfl
    | cons ms l ih =>
      have ih := ih fun ns h => hl ns (List.mem_cons_of_mem _ h)
      have lm := hl ms List.mem_cons_self
      rw [List.flatMap_cons, List.filter_append, ← ih, List.filter_map]
      by_cases c : preB d ms = true
      · rw [List.filter_cons_of_pos c]
        have e : extF d t (ms :: l.filter (preB d)) = extK d t ms (ranK d t) ++ extF d t (l.filter (preB d)) := by unfold extF; rw [List.flatMap_cons]
        rw [e]
        congr 1
        unfold extK ranK
        congr 1
        refine List.filter_congr fun i _ => ?_
        show okE d t ms.sum _ = preB d (ms ++ [_])
        rw [preB_app, c, lm, Bool.true_and]
      · rw [List.filter_cons_of_neg c]
        have e : ((List.range (nth d.B t + 1 - nth d.A t).toNat).filter (preB d ∘ fun i : Nat => ms ++ [nth d.A t + (i : Int)])) = [] := by
          rw [List.filter_eq_nil_iff]
          intro i _ h
          have h : preB d (ms ++ [_]) = true := h
          rw [preB_app, Bool.and_eq_true] at h
          exact c h.1
        rw [e]
        rfl
section
variable {d e : PD}
theorem sqS_X {r : List Int} {n : Nat} (h : r.length = n) : sqS r = sqX (sumX r) n := (sq_sum h).symm
theorem all_best (ok : d.Ok) (has : d.Has) {r : List Int} : r ∈ minL (allTo d d.L.length) ↔ r.length = d.L.length ∧ d.BestX (sumX r) := by
  unfold minL
  rw [List.mem_filter, decide_eq_true_iff, all_iff]
  constructor
  · rintro ⟨⟨l, row⟩, h⟩
    refine ⟨l, ?_⟩
    obtain ⟨X, b⟩ := has.best
    have lb := best_list b
    have h1 := h _ (all_iff.mpr ⟨rowOf_len, lb.row⟩)
    rw [sqS_X l, sqS_X rowOf_len] at h1
    exact best_of_sq ok lb row h1
  · rintro ⟨l, b⟩
    refine ⟨⟨l, b.row⟩, fun q hq => ?_⟩
    obtain ⟨lq, rq⟩ := all_iff.mp hq
    rw [sqS_X l, sqS_X lq]
    exact best_min ok b rq
open Classical in
noncomputable def bestB (d : PD) (r : List Int) : Bool := decide (d.BestX (sumX r))
theorem bestB_iff {r : List Int} : bestB d r = true ↔ d.BestX (sumX r) := by
  unfold bestB
  exact @decide_eq_true_iff _ (Classical.propDecidable _)
theorem minL_box (ok : d.Ok) (has : d.Has) : minL (allTo d d.L.length) = (boxTo d.A d.B d.L.length).filter (bestB d) := by
  have h0 : minL (allTo d d.L.length) = ((boxTo d.A d.B d.L.length).filter (preB d)).filter fun r => decide (∀ q ∈ allTo d d.L.length, sqS r ≤ sqS q) := by
    conv => lhs; unfold minL
    rw [← allTo_box]
  rw [h0, List.filter_filter]
  refine List.filter_congr fun r hr => ?_
  rw [Bool.eq_iff_iff, bestB_iff, Bool.and_eq_true]
  have l := boxTo_len _ _ hr
  have hb : d.BestX (sumX r) ↔ r ∈ minL (allTo d d.L.length) := ⟨fun b => (all_best ok has).mpr ⟨l, b⟩, fun h => ((all_best ok has).mp h).2⟩
  rw [hb, h0, List.mem_filter, List.mem_filter]
  constructor
  · rintro ⟨h1, h2⟩
    exact ⟨⟨hr, h2⟩, h1⟩
  · rintro ⟨⟨_, h2⟩, h1⟩
    exact ⟨h1, h2⟩
theorem minL_same (ok : d.Ok) (has : d.Has) (ok2 : e.Ok) (has2 : e.Has) (l : e.L.length = d.L.length) (hA : e.A = d.A) (hB : e.B = d.B) : minL (allTo e e.L.length) = minL (allTo d d.L.length) ↔ ∀ Y, e.BestX Y ↔ d.BestX Y := by
  constructor
  · intro h Y
    have key : ∀ {f g : PD}, f.Ok → f.Has → g.Ok → g.Has → g.L.length = f.L.length → minL (allTo g g.L.length) = minL (allTo f f.L.length) → f.BestX Y → g.BestX Y := fun {f g} okf hf okg hg l h b => by
      have m := (all_best okf hf).mpr ⟨rowOf_len, best_list b⟩
      rw [← h] at m
      have b2 := ((all_best okg hg).mp m).2
      exact best_congr (fun t ht => sumX_rowOf b.row.zero (by omega)) b2
    exact ⟨key ok2 has2 ok has l.symm h.symm, key ok has ok2 has2 l h⟩
  · intro h
    rw [minL_box ok has, minL_box ok2 has2, hA, hB, l]
    refine List.filter_congr fun r _ => ?_
    rw [Bool.eq_iff_iff, bestB_iff, bestB_iff]
    exact h _
/-- plans with the same rows have the same best rows -/
theorem best_rows_same (ok : d.Ok) (ok2 : e.Ok) (l : e.L.length = d.L.length) (h : ∀ X, e.RowX X ↔ d.RowX X) (Y : Nat → Int) : e.BestX Y ↔ d.BestX Y := by
  have key : ∀ {f g : PD}, f.Ok → g.Ok → g.L.length = f.L.length → (∀ X, g.RowX X ↔ f.RowX X) → f.BestX Y → g.BestX Y := fun {f g} okf okg l h b => by
    obtain ⟨W, bW⟩ : ∃ W, g.BestX W := (show g.Has from ⟨Y, (h Y).mpr b.row⟩).best
    have m := best_min okf b ((h W).mp bW.row)
    rw [← l] at m
    exact best_of_sq okg bW ((h Y).mpr b.row) m
  exact ⟨key ok2 ok l.symm fun X => (h X).symm, key ok ok2 l h⟩
theorem sum_least {X : Nat → Int} (r : d.RowX X) (lA : d.A.length = d.L.length) {t : Nat} (h : t ≤ d.L.length) : (d.A.take t).sum ≤ X t := by
  have e := sumF_take (ns := d.A) (k := t) (by omega)
  have e1 : (d.A.take t).sum = sumF (nth d.A) t := e.symm
  rw [e1]
  have : ∀ k, k ≤ d.L.length → sumF (nth d.A) k ≤ X k := fun k => by
    induction k with
    | zero =>
      intro _
      have := r.zero
      show (0 : Int) ≤ X 0
      omega
    | succ k ih =>
      intro hk
      have h1 := ih (by omega)
      have h2 := r.least k (by omega)
      show sumF (nth d.A) k + nth d.A k ≤ X (k + 1)
      have e2 : d.a k = nth d.A k := rfl
      omega
  exact this t h
theorem sum_most {X : Nat → Int} (r : d.RowX X) (lB : d.B.length = d.L.length) {t : Nat} (h : t ≤ d.L.length) : X t ≤ (d.B.take t).sum := by
  have e := sumF_take (ns := d.B) (k := t) (by omega)
  have e1 : (d.B.take t).sum = sumF (nth d.B) t := e.symm
  rw [e1]
  have : ∀ k, k ≤ d.L.length → X k ≤ sumF (nth d.B) k := fun k => by
    induction k with
    | zero =>
      intro _
      have := r.zero
      show X 0 ≤ (0 : Int)
      omega
    | succ k ih =>
      intro hk
      have h1 := ih (by omega)
      have h2 := r.most k (by omega)
      show X (k + 1) ≤ sumF (nth d.B) k + nth d.B k
      have e2 : d.b k = nth d.B k := rfl
      omega
  exact this t h
/-- a bound that bars nothing: the rows are the same, whichever it is -/
theorem bars_none {f : PD} {t : Nat} (i1 : Inn e d t) (i2 : Inn f d t) (h1 : ∀ X, f.RowX X → e.lo t ≤ X t ∧ X t ≤ e.hi t) (h2 : ∀ X, e.RowX X → f.lo t ≤ X t ∧ X t ≤ f.hi t) (X : Nat → Int) : e.RowX X ↔ f.RowX X := by
  have e1 : e.a = f.a := by unfold PD.a; rw [← i1.A, ← i2.A]
  have e2 : e.b = f.b := by unfold PD.b; rw [← i1.B, ← i2.B]
  have l : e.L.length = f.L.length := by rw [← i1.len, ← i2.len]
  have lo : ∀ s, s ≠ t → e.lo s = f.lo s := fun s h => by rw [← i1.lo h, ← i2.lo h]
  have hi : ∀ s, s ≠ t → e.hi s = f.hi s := fun s h => by rw [← i1.hi h, ← i2.hi h]
  constructor
  · intro r
    have b := h2 X r
    unfold PD.RowX at *
    rw [← l, ← e1, ← e2]
    refine ⟨r.zero, fun s hs => ?_, fun s hs => ?_, r.least, r.most⟩
    · by_cases c : s = t
      · rw [c]
        exact b.1
      · rw [← lo s c]
        exact r.low s hs
    · by_cases c : s = t
      · rw [c]
        exact b.2
      · rw [← hi s c]
        exact r.high s hs
  · intro r
    have b := h1 X r
    unfold PD.RowX at *
    rw [l, e1, e2]
    refine ⟨r.zero, fun s hs => ?_, fun s hs => ?_, r.least, r.most⟩
    · by_cases c : s = t
      · rw [c]
        exact b.1
      · rw [lo s c]
        exact r.low s hs
    · by_cases c : s = t
      · rw [c]
        exact b.2
      · rw [hi s c]
        exact r.high s hs
end
theorem psum_bd {ns : List Int} (h : ∀ x ∈ ns, -3 ≤ x ∧ x ≤ 3) : ∀ i, i < ns.length → -(3 * ((i : Int) + 1)) ≤ psum ns i ∧ psum ns i ≤ 3 * ((i : Int) + 1)
  | 0, hi => by
    have e : psum ns 0 = (ns.take 0).sum + nth ns 0 := take_sum hi
    have := h _ (nth_mem hi)
    have z : (ns.take 0).sum = 0 := rfl
    omega
  | i + 1, hi => by
    have ih := psum_bd h i (by omega)
    have e : psum ns (i + 1) = (ns.take (i + 1)).sum + nth ns (i + 1) := take_sum hi
    have e2 : psum ns i = (ns.take (i + 1)).sum := rfl
    have := h _ (nth_mem hi)
    omega
def outI (up : Bool) : Int := if up = true then 99 else -99
section
variable {d : PD} {t : Nat} {up : Bool} {ns : List Int}
theorem row_small (h : ∀ i, i < d.L.length → -5 ≤ d.a i ∧ d.b i ≤ 5) {X : Nat → Int} (r : d.RowX X) : ∀ k, k ≤ d.L.length → -(5 * (k : Int)) ≤ X k ∧ X k ≤ 5 * (k : Int)
  | 0, _ => by
    have := r.zero
    omega
  | k + 1, hk => by
    have ih := row_small h r k (by omega)
    have h1 := r.least k (by omega)
    have h2 := r.most k (by omega)
    have h3 := h k (by omega)
    omega
theorem out_same (ok : d.Ok) (rw_ : RawOk ns d) (bx : BoxOk ns d) (h5 : ns.length ≤ 5) (h1 : 1 ≤ t) (h2 : t < d.L.length) : Inn (d.moved t up (outI up)) d t ∧ (d.moved t up (outI up)).Ok ∧ ∀ X, (d.moved t up (outI up)).RowX X ↔ (d.loose t up).RowX X := by
  have lL := rw_.lL
  have lU := ok.lU
  have lA := ok.lA
  have lB := ok.lB
  have lu := ok.lu (t - 1) (by omega)
  have pb := psum_bd bx.e (t - 1) (by omega)
  have b1 := bx.l (t - 1) (by omega)
  have b2 := bx.u (t - 1) (by omega)
  have rl := rw_.l (t - 1) (by omega)
  have ru := rw_.u (t - 1) (by omega)
  have i2 := inn_loose (up := up) ok h1 h2
  have sm : ∀ i, i < d.L.length → -5 ≤ d.a i ∧ d.b i ≤ 5 := fun i hi => ⟨bx.a i (by omega), bx.b i (by omega)⟩
  cases up with
  | true =>
    have i1 : Inn (d.moved t true (outI true)) d t := inn_outU ok h1 h2 (by show _ ≤ nth d.U (t - 1) + 99; omega)
    refine ⟨i1, ok.setU h1 h2 (by show _ ≤ nth d.U (t - 1) + 99; omega), bars_none i1 i2 (fun X r => ?_) (fun X r => ?_)⟩
    · have rs := row_small (d := d.loose t true) sm r t (by show t ≤ d.L.length; omega)
      rw [loAt1 h1, hiAt1 h1]
      have rlo := r.low t (by show t ≤ d.L.length; omega)
      rw [loAt1 h1] at rlo
      refine ⟨rlo, ?_⟩
      show X t ≤ nth (d.U.set (t - 1) (nth d.U (t - 1) + 99)) (t - 1)
      rw [nth_set_at (by omega)]
      omega
    · have sb := sum_most (d := d.moved t true (outI true)) r lB (t := t) (by show t ≤ d.L.length; omega)
      have sb : X t ≤ (d.B.take t).sum := sb
      rw [loAt1 h1, hiAt1 h1]
      have rlo := r.low t (by show t ≤ d.L.length; omega)
      rw [loAt1 h1] at rlo
      refine ⟨rlo, ?_⟩
      show X t ≤ nth (d.U.set (t - 1) (highV d t)) (t - 1)
      rw [nth_set_at (by omega)]
      unfold highV
      omega
  | false =>
    have i1 : Inn (d.moved t false (outI false)) d t := inn_outL h1 h2 (by show nth d.L (t - 1) + -99 ≤ _; omega)
    have ln : (d.moved t false (outI false)).L.length = d.L.length := List.length_set
    have ln2 : (d.loose t false).L.length = d.L.length := List.length_set
    refine ⟨i1, ok.setL h1 h2 (by show nth d.L (t - 1) + -99 ≤ _; omega), bars_none i1 i2 (fun X r => ?_) (fun X r => ?_)⟩
    · have rs := row_small (d := d.loose t false) (fun i hi => sm i (by omega)) r t (by omega)
      rw [loAt1 h1, hiAt1 h1]
      have rhi := r.high t (by omega)
      rw [hiAt1 h1] at rhi
      refine ⟨?_, rhi⟩
      show nth (d.L.set (t - 1) (nth d.L (t - 1) + -99)) (t - 1) ≤ X t
      rw [nth_set_at (by omega)]
      omega
    · have sb := sum_least (d := d.moved t false (outI false)) r (by rw [ln]; exact lA) (t := t) (by omega)
      have sb : (d.A.take t).sum ≤ X t := sb
      rw [loAt1 h1, hiAt1 h1]
      have rhi := r.high t (by omega)
      rw [hiAt1 h1] at rhi
      refine ⟨?_, rhi⟩
      show nth (d.L.set (t - 1) (lowV d t)) (t - 1) ≤ X t
      rw [nth_set_at (by omega)]
      unfold lowV
      omega
/-- what the rows of the plan without a bound tell -/
theorem out_nb (ok : d.Ok) (has : d.Has) (rw_ : RawOk ns d) (bx : BoxOk ns d) (h5 : ns.length ≤ 5) (h1 : 1 ≤ t) (h2 : t < d.L.length) : minL (allTo (d.moved t up (outI up)) (d.moved t up (outI up)).L.length) = minL (allTo d d.L.length) ↔ NB d t up := by
  obtain ⟨i1, ok1, same⟩ := out_same (up := up) ok rw_ bx h5 h1 h2
  have okl := ok.loose (up := up) h1 h2
  have ll := (inn_loose (up := up) ok h1 h2).len
  have has1 : (d.moved t up (outI up)).Has := by
    obtain ⟨X, r⟩ := has
    exact ⟨X, (i1.row.mp r).1⟩
  rw [minL_same ok has ok1 has1 i1.len.symm i1.A.symm i1.B.symm]
  have bs := best_rows_same okl ok1 (i1.len.symm.trans ll) same
  exact ⟨fun h Y => (bs Y).symm.trans (h Y), fun h Y => (bs Y).trans (h Y)⟩
theorem out_idl (ok : d.Ok) (has : d.Has) (rw_ : RawOk ns d) (bx : BoxOk ns d) (h5 : ns.length ≤ 5) (h1 : 1 ≤ t) (h2 : t < d.L.length) {r0 r1 : List Int} (m0 : r0 ∈ minL (allTo (d.moved t up (outI up)) (d.moved t up (outI up)).L.length)) (m1 : r1 ∈ minL (allTo d d.L.length)) : r0.Perm r1 ↔ IDL d t up := by
  obtain ⟨i1, ok1, same⟩ := out_same (up := up) ok rw_ bx h5 h1 h2
  have okl := ok.loose (up := up) h1 h2
  have ll := (inn_loose (up := up) ok h1 h2).len
  have has1 : (d.moved t up (outI up)).Has := by
    obtain ⟨X, r⟩ := has
    exact ⟨X, (i1.row.mp r).1⟩
  have bs := best_rows_same okl ok1 (i1.len.symm.trans ll) same
  obtain ⟨k0, b0⟩ := (all_best ok1 has1).mp m0
  obtain ⟨k1, b1⟩ := (all_best ok has).mp m1
  rw [idl_iff ok okl k1 (k0.trans (i1.len.symm.trans ll)) b1 ((bs _).mp b0)]
  exact List.perm_comm
end
set_option Elab.async false
set_option linter.all false
set_option maxRecDepth 100000
set_option maxHeartbeats 4000000
set_option exponentiation.threshold 3000
theorem SmC.moved {d : PD} (h : SmC d) {t : Nat} {up : Bool} {y : Int} : SmC (d.moved t up y) := fun i hi => by
  rw [moved_len.1] at hi
  cases up
  · exact h i hi
  · exact h i hi
theorem smC_rows {d : PD} (ok : d.Ok) (sm : SmC d) (h5 : d.L.length ≤ 5) {r : List Int} (h : r ∈ allTo d d.L.length) : r.length ≤ 1000 ∧ ∀ x ∈ r, -100 ≤ x ∧ x ≤ 100 := by
  obtain ⟨l, row⟩ := all_iff.mp h
  refine ⟨by omega, fun x hx => ?_⟩
  obtain ⟨i, hi, rfl⟩ := mem_nth hx
  have h1 := row.ent_least (i := i) (by omega)
  have h2 := row.ent_most (i := i) (by omega)
  rw [ent_sumX hi] at h1 h2
  have h3 := sm i (by omega)
  have e1 : d.a i = nth d.A i := rfl
  have e2 : d.b i = nth d.B i := rfl
  omega
theorem all_len5 {d : PD} (ok : d.Ok) (sm : SmC d) (h5 : d.L.length ≤ 5) : (allTo d d.L.length).length ≤ 3125 := by
  have h := allTo_len5 (d := d) (fun t ht => by
    have := sm t ht
    have := ok.ab t ht
    unfold ranK
    omega) d.L.length (Nat.le_refl _)
  exact Nat.le_trans h (Nat.pow_le_pow_right (by decide) h5)
theorem all_pos {d : PD} (has : d.Has) : allTo d d.L.length ≠ [] := by
  obtain ⟨X, b⟩ := has.best
  intro e
  have := (all_iff (d := d)).mpr ⟨rowOf_len, (best_list b).row⟩
  rw [e] at this
  cases this
theorem has_of_all {d : PD} (h : allTo d d.L.length ≠ []) : d.Has := by
  obtain ⟨r, hr⟩ := List.exists_mem_of_ne_nil _ h
  exact ⟨_, (all_iff.mp hr).2⟩
theorem moved_no {d : PD} {t : Nat} {up : Bool} {r : Int} (h1 : 1 ≤ t) (h2 : t < d.L.length) (lU : d.U.length = d.L.length) (h : IsRoom d d t up r) (same : ∀ Y, (d.moved t up (wayI up * (r + 1))).BestX Y ↔ d.BestX Y) : False := by
  cases up with
  | true =>
    obtain ⟨n2, tb, rfl⟩ := h
    have l : (d.moved t true (wayI true * (nth d.U (t - 1) - sumX n2 t + 1))).L.length = d.L.length := rfl
    have x1 := ((same _).mpr tb.best).row.high t (by omega)
    rw [hiAt1 h1] at x1
    have e2 : nth (d.moved t true (wayI true * (nth d.U (t - 1) - sumX n2 t + 1))).U (t - 1) = nth d.U (t - 1) + wayI true * (nth d.U (t - 1) - sumX n2 t + 1) := nth_set_at (by omega)
    rw [e2] at x1
    have e1 : wayI true * (nth d.U (t - 1) - sumX n2 t + 1) = -(nth d.U (t - 1) - sumX n2 t + 1) := by show (-1 : Int) * _ = _; omega
    omega
  | false =>
    obtain ⟨n2, tb, rfl⟩ := h
    have l : (d.moved t false (wayI false * (sumX n2 t - nth d.L (t - 1) + 1))).L.length = d.L.length := List.length_set
    have x1 := ((same _).mpr tb.best).row.low t (by omega)
    rw [loAt1 h1] at x1
    have e2 : nth (d.moved t false (wayI false * (sumX n2 t - nth d.L (t - 1) + 1))).L (t - 1) = nth d.L (t - 1) + wayI false * (sumX n2 t - nth d.L (t - 1) + 1) := nth_set_at (by omega)
    rw [e2] at x1
    have e1 : wayI false * (sumX n2 t - nth d.L (t - 1) + 1) = (sumX n2 t - nth d.L (t - 1) + 1) := by show (1 : Int) * _ = _; omega
    omega
section
variable {P : Program} {w : World} {K : PySem.W.Frag} {mg : Str → Option Value} {base : Heap}
def sp__law_moved (K : PySem.W.Frag) : Sp := fun vs H Q _ => ∃ (r : Addr) (d : PD) (t : Nat) (up : Bool) (y : Int), vs = [.ref r, .int (t : Nat), .str (sdS up), .int y] ∧ RawAt [] H true r d ∧ d.Ok ∧ (1 ≤ t ∧ t ≤ d.L.length) ∧
  ∀ q H', H q = none → Fr [] H H' → RawAt [] H' true q (d.moved t up y) → Q (.ref q) H'
theorem k__law_moved (T : Tx fa fn K mg base) : Fk P w K mg base "_law_moved" ["box", "k", "edge", "by"] 3 (sp__law_moved K) s__law_moved "_law_moved" := by
  refine T.fk 50 69 (q := "_law_moved") (st := s__law_moved) sc__law_moved (fun _ _ _ _ _ _ us hl => match us, hl with | [_, _, _, _], _ => rfl) (fun vs H Q E h => ?_) (fun cdv A outer s H vs Q E hr h => ?_)
  · obtain ⟨r, d, t, up, y, rfl, _⟩ := h
    rfl
  · obtain ⟨r, d, t, up, y, rfl, ra, ok, ⟨c1, c2⟩, k⟩ := h
    have lU := ok.lU
    obtain ⟨l1, l2, l3, l4, h0, ⟨h1, h2, h3, h4⟩, _⟩ := ra.ex
    have h0 : H r = some (.tup [.ref l1, .ref l2, .ref l3, .ref l4]) := h0
    refine ⟨_, (pss_cons (ps_par (i := 4) (j := 5) (by rfl) sc__law_moved.nd rfl rfl (by decide) rfl rfl (pa_cons (pe_callTy call_list_of (by rfl) (T.fr 8) (by decide +kernel) (pa_cons (pe_ix ix_tup (pv 0) pe_int (fun _ _ => rfl)) pa_nil)) (pa_cons (pe_callTy call_list_of (by rfl) (T.fr 8) (by decide +kernel) (pa_cons (pe_ix ix_tup (pv 0) pe_int (fun _ _ => rfl)) pa_nil)) pa_nil)) (by rfl))
      (pss_cons (ps_if (pt_cmpR op_eq (pv 2) pe_str (nomark _)) (pss_one (ps_asg (pe_op op_add (pe_ix ix_list (pv 4) (pe_op op_sub (pv 1) pe_int) (fun _ _ => rfl)) (pv 3)) (pg_sub (pv 4) (pe_op op_sub (pv 1) pe_int) set_list))) (pss_one (ps_asg (pe_op op_add (pe_ix ix_list (pv 5) (pe_op op_sub (pv 1) pe_int) (fun _ _ => rfl)) (pv 3)) (pg_sub (pv 5) (pe_op op_sub (pv 1) pe_int) set_list))))
      (pss_one (ps_ret (pe_tup (pa_cons (pv 4) (pa_cons (pv 5) (pa_cons (pe_ix ix_tup (pv 0) pe_int (fun _ _ => rfl)) (pa_cons (pe_ix ix_tup (pv 0) pe_int (fun _ _ => rfl)) pa_nil))))))))), ?_⟩
    walk_at "ev0"
    intro a1 k1
    have z1 := (Z.start0 H).alloc (.lst (d.L.map V.int)) k1
    have g0 := z1.keep h0 (by simp)
    have g2 := z1.keep h2 (by simp)
    walk_at "ev"
    intro a2 k2
    have z2 := z1.alloc (.lst (d.U.map V.int)) k2
    have g0 := z2.keep h0 (by simp)
    walk_at "ev"
    rw [sdS_low]
    cases up with
    | false =>
      rw [Bool.not_false]
      walk_at "ev"
      refine r_at (atN1 c1 (by omega)) ?_
      walk_at "ev"
      refine r_ixn (ixN_m1 c1 (by rw [List.length_map]; omega)) ?_
      have z3 := z2.set 1 (.lst ((d.L.map V.int).set (t - 1) (.int (nth d.L (t - 1) + y)))) rfl (.inr rfl)
      have g0 := z3.keep h0 (by simp)
      walk_at "ev"
      intro a4 k4
      have z4 := z3.alloc (.tup [.ref a1, .ref a2, .ref l3, .ref l4]) k4
      rw [← List.map_set] at z4 ⊢
      exact k a4 _ (z3.none k4) (z4.fr0 (by simp)) ⟨a1, a2, l3, l4, z4.get (.head _), ⟨z4.get (.tail _ (.tail _ (.head _))), z4.get (.tail _ (.head _)), z4.keep h3 (by simp), z4.keep h4 (by simp)⟩, nin, nin, nin, nin, nin⟩
    | true =>
      rw [Bool.not_true]
      walk_at "ev"
      refine r_at (atN1 c1 (by omega)) ?_
      walk_at "ev"
      refine r_ixn (ixN_m1 c1 (by rw [List.length_map]; omega)) ?_
      have z3 := z2.set 0 (.lst ((d.U.map V.int).set (t - 1) (.int (nth d.U (t - 1) + y)))) rfl (.inr rfl)
      have g0 := z3.keep h0 (by simp)
      walk_at "ev"
      intro a4 k4
      have z4 := z3.alloc (.tup [.ref a1, .ref a2, .ref l3, .ref l4]) k4
      rw [← List.map_set] at z4 ⊢
      exact k a4 _ (z3.none k4) (z4.fr0 (by simp)) ⟨a1, a2, l3, l4, z4.get (.head _), ⟨z4.get (.tail _ (.tail _ (.head _))), z4.get (.tail _ (.head _)), z4.keep h3 (by simp), z4.keep h4 (by simp)⟩, nin, nin, nin, nin, nin⟩
def sp__law_loose (K : PySem.W.Frag) : Sp := fun vs H Q _ => ∃ (r : Addr) (d : PD) (t : Nat) (up : Bool), vs = [.ref r, .int (t : Nat), .str (sdS up)] ∧ RawAt [] H true r d ∧ d.Ok ∧ (1 ≤ t ∧ t ≤ d.L.length) ∧
  ∀ q H', H q = none → Fr [] H H' → RawAt [] H' true q (d.moved t up (outI up)) → Q (.ref q) H'
theorem k__law_loose (T : Tx fa fn K mg base) : Fk P w K mg base "_law_loose" ["box", "k", "edge"] 4 (sp__law_loose K) s__law_loose "_law_loose" := by
  refine T.fk 51 70 (q := "_law_loose") (st := s__law_loose) sc__law_loose (fun _ _ _ _ _ _ us hl => match us, hl with | [_, _, _], _ => rfl) (fun vs H Q E h => ?_) (fun cdv A outer s H vs Q E hr h => ?_)
  · obtain ⟨r, d, t, up, rfl, _⟩ := h
    rfl
  · obtain ⟨r, d, t, up, rfl, ra, ok, c, k⟩ := h
    refine ⟨_, (pss_one (ps_ret (pe_f (k__law_moved T) hr (pa_cons (pv 0) (pa_cons (pv 1) (pa_cons (pv 2) (pa_cons (pe_ifExp (pt_cmpR op_eq (pv 2) pe_str (nomark _)) (pe_un un_neg pe_int) pe_int) pa_nil))))))), ?_⟩
    walk_at "ev0"
    rw [sdS_low]
    cases up with
    | false =>
      rw [Bool.not_false]
      walk_at "ev"
      exact ⟨r, d, t, false, -99, rfl, ra, ok, c, fun q H' hq f rq => k q H' hq f rq⟩
    | true =>
      rw [Bool.not_true]
      walk_at "ev"
      exact ⟨r, d, t, true, 99, rfl, ra, ok, c, fun q H' hq f rq => k q H' hq f rq⟩
def sp__law_room_right (K : PySem.W.Frag) : Sp := fun vs H Q _ => ∃ (r b : Addr) (d : PD) (t : Nat) (up : Bool) (zs : List (Addr × List Int)), vs = [.ref r, .ref b, .int (t : Nat), .str (sdS up)] ∧ RawAt [] H true r d ∧ d.Ok ∧ d.Has ∧ d.Sm ∧ (SmC d ∧ d.L.length ≤ 5) ∧
  H b = some (.lst (refP zs)) ∧ LP H zs ∧ zs.map Prod.snd = minL (allTo d d.L.length) ∧ (1 ≤ t ∧ t < d.L.length) ∧ ∀ H', Fr [] H H' → Q (.bl true) H'
theorem k__law_room_right (T : Tx fa fn K mg base) : Fk P w K mg base "_law_room_right" ["box", "best", "k", "edge"] 11 (sp__law_room_right K) s__law_room_right "_law_room_right" := by
  refine T.fk 52 71 (q := "_law_room_right") (st := s__law_room_right) sc__law_room_right (fun _ _ _ _ _ _ us hl => match us, hl with | [_, _, _, _], _ => rfl) (fun vs H Q E h => ?_) (fun cdv A outer s H vs Q E hr h => ?_)
  · obtain ⟨r, b, d, t, up, zs, rfl, _⟩ := h
    rfl
  · obtain ⟨r, b, d, t, up, zs, rfl, ra, ok, has, sm, ⟨smc, h5⟩, hb, lp, zm, ⟨c1, c2⟩, k⟩ := h
    have one := ok.one
    have most := ok.most
    have lU := ok.lU
    have bd := bd_of_sm ok sm
    refine ⟨_, (pss_cons (ps_set (i := 4) sc__law_room_right.nd rfl (by first | exact Or.inl rfl | exact Or.inr rfl) (pe_f (k_room_of T) hr (pa_cons (pe_f (k__law_plan T) hr (pa_cons (pv 0) pa_nil)) (pa_cons (pv 2) (pa_cons (pv 3) pa_nil)))))
      (Evl.pss_cut (ps_set (i := 5) sc__law_room_right.nd rfl (by first | exact Or.inl rfl | exact Or.inr rfl) (pe_ifExp (pt_cmpR op_eq (pv 3) pe_str (nomark _)) pe_int (pe_un un_neg pe_int)))
      (pss_cons (ps_set (i := 6) sc__law_room_right.nd rfl (by first | exact Or.inl rfl | exact Or.inr rfl) (pe_f (k__law_moved T) hr (pa_cons (pv 0) (pa_cons (pv 2) (pa_cons (pv 3) (pa_cons (pe_op op_mulW (pv 5) (pv 4)) pa_nil))))))
      (pss_cons (ps_if (PW.pt (pw_or (pt_cmpR op_lt (pv 4) pe_int (nomark _)) (pw_or (pt_cmpR op_gt (pe_ix ix_list (pe_ix ix_tup (pv 6) pe_int (fun _ _ => rfl)) (pe_op op_sub (pv 2) pe_int) (fun _ _ => rfl)) (pe_ix ix_list (pe_ix ix_tup (pv 6) pe_int (fun _ _ => rfl)) (pe_op op_sub (pv 2) pe_int) (fun _ _ => rfl)) (nomark _)) (pw_or1 (pt_cmpR (op_neD hr.units) (pe_f (k__law_best T) hr (pa_cons (pe_f (k__law_all T) hr (pa_cons (pv 6) pa_nil)) pa_nil)) (pv 1) (nomark _)))))) (pss_one (ps_ret pe_bl)) pss_nil)
      (pss_cons (ps_if (pt_not (pt_val (pe_f (k__law_alike T) hr (pa_cons (pe_pr (pe_f (k_moved_bound T) hr (pa_cons (pe_f (k__law_plan T) hr (pa_cons (pv 0) pa_nil)) (pa_cons (pv 2) (pa_cons (pv 3) (pa_cons (pe_op op_mulW (pv 5) (pv 4)) pa_nil))))) (k_Plan_low T) hr) (pa_cons (pe_ix ix_tup (pv 6) pe_int (fun _ _ => rfl)) pa_nil))))) (pss_one (ps_ret pe_bl)) pss_nil)
      (pss_cons (ps_set (i := 7) sc__law_room_right.nd rfl (by first | exact Or.inl rfl | exact Or.inr rfl) (pe_f (k__law_moved T) hr (pa_cons (pv 0) (pa_cons (pv 2) (pa_cons (pv 3) (pa_cons (pe_op op_mulW (pv 5) (pe_op op_add (pv 4) pe_int)) pa_nil))))))
      (Evl.pss_cut (ps_set (i := 8) sc__law_room_right.nd rfl (by first | exact Or.inl rfl | exact Or.inr rfl) (pe_ifExp (pt_cmpR op_le (pe_ix ix_list (pe_ix ix_tup (pv 7) pe_int (fun _ _ => rfl)) (pe_op op_sub (pv 2) pe_int) (fun _ _ => rfl)) (pe_ix ix_list (pe_ix ix_tup (pv 7) pe_int (fun _ _ => rfl)) (pe_op op_sub (pv 2) pe_int) (fun _ _ => rfl)) (nomark _)) (pe_f (k__law_all T) hr (pa_cons (pv 7) pa_nil)) (pe_lst pa_nil)))
      (pss_one (ps_ret (pe_or (pe_cmpR (op_eqD hr.units) (pv 8) (pe_lst pa_nil) (nomark _)) (pe_one (pe_cmpR (op_neD hr.units) (pe_f (k__law_best T) hr (pa_cons (pv 8) pa_nil)) (pv 1) (nomark _))))))))))))), ?_⟩
    walk_at "ev0"
    refine ⟨r, d, rfl, ra, ok, fun p H1 f1 n1 => ?_⟩
    walk_at "ev"
    refine ⟨p, d, t, up, rfl, n1.at, ok, has, bd, ⟨c1, c2⟩, fun rm H2 f2 hrm => ?_⟩
    obtain ⟨rm0, rm9⟩ := room_bd ok sm c1 c2 hrm
    have f12 := f1.trans f2
    walk_at "ev"
    refine Evl.q_cut (M := fun σ' H' => σ' = [some (.ref r), some (.ref b), some (.int (t : Nat)), some (.str (sdS up)), some (.int rm), some (.int (wayI up)), none, none, none] ∧ H' = H2) ?_ ?_
    · walk_at "ev"
      rw [sdS_low]
      cases up with
      | false =>
        walk_at "ev"
        exact ⟨rfl, rfl⟩
      | true =>
        walk_at "ev"
        exact ⟨rfl, rfl⟩
    rintro σ' H' ⟨rfl, rfl⟩
    have cmw : ∀ y : Int, 0 ≤ y → y ≤ 2 ^ 182 + 1 → CMulW (wayI up) y := fun y y0 y1 => wide_mul (a := 2) (b := 183) (by cases up <;> decide) (natAbs_lt (Int.lt_of_lt_of_le (show -(2 ^ 183) < (0 : Int) by decide +kernel) y0) (Int.lt_of_le_of_lt y1 (by decide +kernel))) (by decide) (by decide) (by decide)
    obtain ⟨mok, mhas, mbd, mtop, mbot, msame⟩ := moved_room ok has bd c1 c2 hrm rm0 (Int.le_refl _)
    have ln := moved_len (d := d) (t := t) (up := up) (y := wayI up * rm)
    have AB := moved_AB (d := d) (t := t) (up := up) (y := wayI up * rm)
    walk_at "ev"
    refine r_I (cmw _ rm0 (by omega)) ?_
    walk_at "ev"
    refine ⟨r, d, t, up, _, rfl, ra.mono f12, ok, ⟨c1, by omega⟩, fun q H3 hq f3 ra3 => ?_⟩
    have f13 := f12.trans f3
    obtain ⟨m1, m2, m3, m4, h0, ⟨hm1, hm2, hm3, hm4⟩, _⟩ := ra3.ex
    have h0 : H3 q = some (.tup [.ref m1, .ref m2, .ref m3, .ref m4]) := h0
    walk_at "ev"
    refine r_iteZ (by omega) ?_
    walk_at "ev"
    refine r_at (atN1 c1 (by omega)) ?_
    walk_at "ev"
    refine r_at (atN1 c1 (by omega)) ?_
    walk_at "ev"
    refine r_iteZ (by have := mok.lu (t - 1) (by omega); omega) ?_
    walk_at "ev"
    refine ⟨q, _, rfl, ra3, mok, smc.moved, by omega, fun a4 H4 ws ha4 f4 g4 ll4 => ?_⟩
    obtain ⟨lp4, er4, em4⟩ := ll4.lp
    rw [er4] at g4
    walk_at "ev"
    have sz4 : ∀ z ∈ ws.zip (allTo (d.moved t up (wayI up * rm)) (d.moved t up (wayI up * rm)).L.length), z.2.length ≤ 1000 ∧ ∀ x ∈ z.2, -100 ≤ x ∧ x ≤ 100 := fun z hz => smC_rows mok smc.moved (by omega) (by rw [← em4]; exact List.mem_map.mpr ⟨z, hz, rfl⟩)
    have ln4 : (ws.zip (allTo (d.moved t up (wayI up * rm)) (d.moved t up (wayI up * rm)).L.length)).length = (allTo (d.moved t up (wayI up * rm)) (d.moved t up (wayI up * rm)).L.length).length := by
      conv => rhs; rw [← em4]
      rw [List.length_map]
    have pos4 := all_pos mhas
    have al4 := all_len5 mok smc.moved (by omega)
    refine ⟨a4, _, rfl, g4, lp4, ⟨by rw [ln4]; exact List.length_pos_iff.mpr pos4, by omega⟩, sz4, fun D5 ys H5 hD5 f5 g5 sub5 ey5 => ?_⟩
    rw [em4, (minL_same ok has mok mhas ln.1 AB.1 AB.2).mpr msame] at ey5
    have f45 := f4.trans f5
    have f15 := f13.trans f45
    walk_at "ev"
    have hb5 := f15 _ _ nin hb
    refine r_neLD g5 hb5 ((lp4.fr f5).sub sub5).ll (lp.fr f15).ll ?_
    rw [ey5, zm, decide_eq_true rfl]
    walk_at "ev"
    refine ⟨r, d, rfl, ra.mono f15, ok, fun p6 H6 f6 n6 => ?_⟩
    walk_at "ev"
    refine r_I (cmw _ rm0 (by omega)) ?_
    walk_at "ev"
    refine ⟨p6, d, t, up, _, rfl, n6.at, ok, ⟨c1, c2⟩, mok, fun q7 H7 f7 n7 => ?_⟩
    have f67 := f6.trans f7
    have f17 := f15.trans f67
    have h07 := (f45.trans f67) _ _ nin h0
    have hm17 := (f45.trans f67) _ _ nin hm1
    have ra7 := ra.mono f17
    clear ln4 sz4 pos4 al4 g4 g5 ey5 sub5 em4 er4 ll4 lp4 hb5
    walk_at "ev"
    refine r_pl n7.at fun s8 k8 => ?_
    have z8 := (Z.start0 H7).alloc (.lst ((d.moved t up (wayI up * rm)).L.map V.int)) k8
    have h08 := z8.keep h07 (by simp)
    have hm18 := z8.keep hm17 (by simp)
    walk_at "ev"
    refine ak_ints (z8.get (.head _)) hm18 (by omega) fun H9 f9 => ?_
    have f19 := (f17.trans (z8.fr0 (by simp))).trans f9
    have ra9 := ra.mono f19
    walk_at "ev"
    refine r_I (cmw _ (by omega) (by omega)) ?_
    walk_at "ev"
    refine ⟨r, d, t, up, _, rfl, ra9, ok, ⟨c1, by omega⟩, fun q10 H10 hq10 f10 ra10 => ?_⟩
    have f110 := f19.trans f10
    clear h0 hm1 hm2 hm3 hm4 h07 hm17 h08 hm18 z8 ra3 ra7 ra9 n6 n7 n1 f12 f13 f45 f15 f67 f17 f19 f9 f10
    have e9 := moved_ok (d := d) (t := t) (up := up) (y := wayI up * (rm + 1)) ok c1 c2
    have b9 := moved_bd bd (t := t) (up := up) (y := wayI up * (rm + 1))
    have ln9 := moved_len (d := d) (t := t) (up := up) (y := wayI up * (rm + 1))
    have AB9 := moved_AB (d := d) (t := t) (up := up) (y := wayI up * (rm + 1))
    have sm9 : SmC (d.moved t up (wayI up * (rm + 1))) := smc.moved
    have no := moved_no (d := d) (t := t) (up := up) (r := rm) c1 c2 lU hrm
    generalize d.moved t up (wayI up * (rm + 1)) = e at ra10 e9 b9 ln9 AB9 sm9 no
    obtain ⟨m1, m2, m3, m4, h0, ⟨hm1, hm2, hm3, hm4⟩, _⟩ := ra10.ex
    have h0 : H10 q10 = some (.tup [.ref m1, .ref m2, .ref m3, .ref m4]) := h0
    walk_at "ev"
    refine Evl.q_cut (M := fun σ' H' => ∃ (a8 : Addr) (ys : List (Addr × List Int)), σ' = [some (.ref r), some (.ref b), some (.int (t : Nat)), some (.str (sdS up)), some (.int rm), some (.int (wayI up)), some (.ref q), some (.ref q10), some (.ref a8)] ∧ Fr [] H10 H' ∧ H' a8 = some (.lst (refP ys)) ∧ LP H' ys ∧ ((e.Ok ∧ ys.map Prod.snd = allTo e e.L.length) ∨ ys = [])) ?_ ?_
    · walk_at "ev"
      refine r_at (atN1 c1 (by omega)) ?_
      walk_at "ev"
      refine r_at (atN1 c1 (by omega)) ?_
      walk_at "ev"
      refine r_ite (fun c => ?_) (fun c => ?_)
      · have oke := e9 c
        walk_at "ev"
        refine ⟨q10, e, rfl, ra10, oke, sm9, by omega, fun a4 H4 ws ha4 f4 g4 ll4 => ?_⟩
        obtain ⟨lp4, er4, em4⟩ := ll4.lp
        rw [er4] at g4
        walk_at "ev"
        exact ⟨a4, _, rfl, f4, g4, lp4, .inl ⟨oke, em4⟩⟩
      · walk_at "ev"
        intro a4 k4
        have z4 := (Z.start0 H10).alloc (.lst []) k4
        exact ⟨a4, [], rfl, z4.fr0 (by simp), z4.get (.head _), (fun q hq => nomatch hq), .inr rfl⟩
    rintro σ' H11 ⟨a8, ys, rfl, f11, g11, lp11, or⟩
    have f111 := f110.trans f11
    walk_at "ev"
    intro a12 k12
    have z12 := (Z.start0 H11).alloc (.lst []) k12
    have f12 := z12.fr0 (by simp)
    have g12 := f12 _ _ nin g11
    have lp12 := lp11.fr f12
    refine r_eqLD (ys := []) g12 (z12.get (.head _)) lp12.ll .nil ?_
    walk_at "ev"
    by_cases c : ys.map Prod.snd = []
    · rw [if_pos (decide_eq_true c)]
      exact k _ (f111.trans f12)
    · rw [if_neg (by rw [decide_eq_true_eq]; exact c)]
      have or2 : e.Ok ∧ ys.map Prod.snd = allTo e e.L.length := or.elim id fun z => absurd (by rw [z]; rfl) c
      obtain ⟨oke, em⟩ := or2
      have ehas := has_of_all (by rw [← em]; exact c)
      have szy : ∀ z ∈ ys, z.2.length ≤ 1000 ∧ ∀ x ∈ z.2, -100 ≤ x ∧ x ≤ 100 := fun z hz => smC_rows oke sm9 (by omega) (by rw [← em]; exact List.mem_map.mpr ⟨z, hz, rfl⟩)
      have lny : ys.length = (allTo e e.L.length).length := by rw [← em, List.length_map]
      have aly := all_len5 oke sm9 (by omega)
      have posy := all_pos ehas
      walk_at "ev"
      refine ⟨a8, ys, rfl, g12, lp12, ⟨by rw [lny]; exact List.length_pos_iff.mpr posy, by omega⟩, szy, fun D13 us H13 hD13 f13 g13 sub13 eu13 => ?_⟩
      walk_at "ev"
      have f113 := (f111.trans f12).trans f13
      refine r_neLD g13 (f113 _ _ nin hb) ((lp12.fr f13).sub sub13).ll (lp.fr f113).ll ?_
      rw [eu13, zm, em]
      have dif : ¬ minL (allTo e e.L.length) = minL (allTo d d.L.length) := fun z => no ((minL_same ok has oke ehas ln9.1 AB9.1 AB9.2).mp z)
      rw [decide_eq_false dif]
      exact k _ f113
end
set_option Elab.async false
set_option linter.all false
set_option maxRecDepth 100000
set_option maxHeartbeats 4000000
set_option exponentiation.threshold 2000
def pF : PD := ⟨[2, 2, 9, 10], [6, 6, 13, 10], [0, 0, 0, 0], [9, 9, 9, 9]⟩
theorem pF_ok : pF.Ok := ⟨by decide, by decide, rfl, rfl, rfl, by decide, by decide, by decide⟩
def rF : List Int := [3, 3, 3, 1]
theorem four_t {P : Nat → Prop} (h0 : P 0) (h1 : P 1) (h2 : P 2) (h3 : P 3) (h4 : P 4) : ∀ t, t ≤ 4 → P t
  | 0, _ => h0
  | 1, _ => h1
  | 2, _ => h2
  | 3, _ => h3
  | 4, _ => h4
  | n + 5, h => absurd h (by omega)
theorem four_i {P : Nat → Prop} (h0 : P 0) (h1 : P 1) (h2 : P 2) (h3 : P 3) : ∀ t, t < 4 → P t
  | 0, _ => h0
  | 1, _ => h1
  | 2, _ => h2
  | 3, _ => h3
  | n + 4, h => absurd h (by omega)
theorem rF_row : pF.RowX (sumX rF) := ⟨rfl, four_t (by decide) (by decide) (by decide) (by decide) (by decide), four_t (by decide) (by decide) (by decide) (by decide) (by decide), four_i (by decide) (by decide) (by decide) (by decide), four_i (by decide) (by decide) (by decide) (by decide)⟩
theorem pF_has : pF.Has := ⟨_, rF_row⟩
theorem pF_bd : pF.Bd := by
  have h : ∀ i, i < 4 → -(2 ^ 1000) ≤ pF.a i ∧ pF.a i ≤ 2 ^ 1000 ∧ -(2 ^ 1000) ≤ pF.b i ∧ pF.b i ≤ 2 ^ 1000 := four_i (by decide +kernel) (by decide +kernel) (by decide +kernel) (by decide +kernel)
  exact h
theorem sqn (x : Int) : 0 ≤ x * x := by
  rcases Int.le_total 0 x with c | c
  · exact Int.mul_nonneg c c
  · exact Int.mul_nonneg_of_nonpos_of_nonpos c c
theorem sq0 {x : Int} (h : x * x ≤ 0) : x = 0 := by
  rcases Int.lt_trichotomy x 0 with c | c | c
  · have := Int.mul_pos_of_neg_of_neg c c
    omega
  · exact c
  · have := Int.mul_pos c c
    omega
/-- sums with the end 10, 9 or more at 3, and squares of 28 at most -/
theorem only_F {Y : Nat → Int} (h0 : Y 0 = 0) (h4 : Y 4 = 10) (h3 : 9 ≤ Y 3) (hs : sqX Y 4 ≤ 28) : Y 1 = 3 ∧ Y 2 = 6 ∧ Y 3 = 9 := by
  have es : sqX Y 4 = (Y 1 - Y 0) * (Y 1 - Y 0) + (Y 2 - Y 1) * (Y 2 - Y 1) + (Y 3 - Y 2) * (Y 3 - Y 2) + (Y 4 - Y 3) * (Y 4 - Y 3) := by
    show 0 + _ + _ + _ + _ = _
    rw [Int.zero_add]
    rfl
  rw [es, h0, h4] at hs
  obtain ⟨a, ha⟩ : ∃ a, Y 1 = 3 + a := ⟨Y 1 - 3, by omega⟩
  obtain ⟨b, hb⟩ : ∃ b, Y 2 = Y 1 + 3 + b := ⟨Y 2 - Y 1 - 3, by omega⟩
  obtain ⟨c, hc⟩ : ∃ c, Y 3 = Y 2 + 3 + c := ⟨Y 3 - Y 2 - 3, by omega⟩
  have e1 : Y 1 - 0 = 3 + a := by omega
  have e2 : Y 2 - Y 1 = 3 + b := by omega
  have e3 : Y 3 - Y 2 = 3 + c := by omega
  have e4 : 10 - Y 3 = 1 - (a + b + c) := by omega
  rw [e1, e2, e3, e4] at hs
  obtain ⟨s, hs'⟩ : ∃ s, s = a + b + c := ⟨_, rfl⟩
  rw [← hs'] at hs
  have s0 : 0 ≤ s := by omega
  have q1 : (3 + a) * (3 + a) = 9 + 6 * a + a * a := by rw [Int.add_mul, Int.mul_add, Int.mul_add]; omega
  have q2 : (3 + b) * (3 + b) = 9 + 6 * b + b * b := by rw [Int.add_mul, Int.mul_add, Int.mul_add]; omega
  have q3 : (3 + c) * (3 + c) = 9 + 6 * c + c * c := by rw [Int.add_mul, Int.mul_add, Int.mul_add]; omega
  have q4 : (1 - s) * (1 - s) = 1 - 2 * s + s * s := by rw [Int.sub_mul, Int.mul_sub, Int.mul_sub]; omega
  rw [q1, q2, q3, q4] at hs
  have n1 := sqn a
  have n2 := sqn b
  have n3 := sqn c
  have n4 := sqn s
  have a0 : a = 0 := sq0 (by omega)
  have b0 : b = 0 := sq0 (by omega)
  have c0 : c = 0 := sq0 (by omega)
  omega
theorem rF_sq : sqX (sumX rF) 4 = 28 := by decide
/-- a plan of four times that holds this row, with 9 at 3 and 10 at the end -/
theorem best_F {e : PD} (ok : e.Ok) (l : e.L.length = 4) (r : e.RowX (sumX rF)) (h3 : 9 ≤ e.lo 3) (h4 : e.lo 4 = 10) {Y : Nat → Int} (y : e.BestX Y) : ∀ t, t ≤ 4 → Y t = sumX rF t := by
  have m := best_min ok y r
  rw [l, rF_sq] at m
  have y3 := y.row.low 3 (by omega)
  have y4 := row_end ok y.row
  rw [l, h4] at y4
  have o := only_F y.row.zero y4 (by omega) m
  exact four_t y.row.zero o.1 o.2.1 o.2.2 y4
theorem rF_best : pF.BestX (sumX rF) := by
  obtain ⟨X, b⟩ := pF_has.best
  exact best_congr (fun t ht => best_F pF_ok rfl rF_row (by decide) (by decide) b t ht) b
theorem room_F {t : Nat} {up : Bool} {r : Int} (h : IsRoom pF pF t up r) (ht : t ≤ 4) : r = if up = true then nth pF.U (t - 1) - sumX rF t else sumX rF t - nth pF.L (t - 1) := by
  cases up with
  | true =>
    obtain ⟨ns, tb, rfl⟩ := h
    rw [best_F pF_ok rfl rF_row (by decide) (by decide) tb.best t ht]
    rfl
  | false =>
    obtain ⟨ns, tb, rfl⟩ := h
    rw [best_F pF_ok rfl rF_row (by decide) (by decide) tb.best t ht]
    rfl
theorem nb_F {t : Nat} {up : Bool} (h1 : 1 ≤ t) (h2 : t < 4) (h3 : 9 ≤ (pF.loose t up).lo 3) (h4 : (pF.loose t up).lo 4 = 10) : NB pF t up := by
  have inn := inn_loose (up := up) pF_ok h1 h2
  have okl := pF_ok.loose (up := up) h1 h2
  refine fun Y => (inn.same okl pF_ok (loose_has pF_ok h1 h2 pF_has) (fun X x => ?_) Y).symm
  have e := best_F okl inn.len.symm ((inn.row.mp rF_row).1) h3 h4 x t (by omega)
  rw [e]
  exact ⟨rF_row.low t (by show t ≤ 4; omega), rF_row.high t (by show t ≤ 4; omega)⟩
theorem not_F : ¬ NB pF 3 false := fun h => by
  have okl := pF_ok.loose (t := 3) (up := false) (by decide) (by decide)
  have b := (h _).mpr rF_best
  have r : (pF.loose 3 false).RowX (sumX [3, 3, 2, 2]) := ⟨rfl, four_t (by decide) (by decide) (by decide) (by decide) (by decide), four_t (by decide) (by decide) (by decide) (by decide) (by decide), four_i (by decide) (by decide) (by decide) (by decide), four_i (by decide) (by decide) (by decide) (by decide)⟩
  have m := best_min okl b r
  exact absurd m (by decide)
theorem free_F : freeL pF = [(1, true), (1, false), (2, true), (2, false), (3, true)] := by
  have e : sidesTo (pF.L.length - 1) = [(1, true), (1, false), (2, true), (2, false), (3, true), (3, false)] := by decide
  unfold freeL
  rw [e, List.filter_cons_of_pos (nbB_t (nb_F (by decide) (by decide) (by decide) (by decide))), List.filter_cons_of_pos (nbB_t (nb_F (by decide) (by decide) (by decide) (by decide))), List.filter_cons_of_pos (nbB_t (nb_F (by decide) (by decide) (by decide) (by decide))),
    List.filter_cons_of_pos (nbB_t (nb_F (by decide) (by decide) (by decide) (by decide))), List.filter_cons_of_pos (nbB_t (nb_F (by decide) (by decide) (by decide) (by decide))), List.filter_cons_of_neg (by rw [nbB_f not_F]; exact Bool.false_ne_true)]
  rfl
set_option Elab.async false
set_option linter.all false
set_option maxRecDepth 100000
set_option maxHeartbeats 4000000
set_option exponentiation.threshold 3000
theorem TL.fr0 {H H' : Hp} {ts : List Addr} {vs : List (List V)} (t : TL H ts vs) (f : Fr [] H H') : TL H' ts vs := t.fr fun x o h => f x o nin h
theorem kb_idle_plan : KwOk "idle" "idle" s_idle ["plan"] ["plan"] 0 revA := fun _ _ _ _ _ _ us ws h1 h2 => match us, ws, h1, h2 with
  | [], [_], _, _ => rfl
theorem kr_idle_plan {vs : List V} {us : List Value} {zs : List V} {ws : List Value} (h1 : Vals vs us) (h2 : Vals zs ws) (h3 : zs.length = ["plan"].length) (h4 : vs.length = 0) : Vals (revA vs zs) (revA us ws) := kr_rev0 h1 h2 h3 h4
theorem kb_needless_plan : KwOk "needless" "needless" s_needless ["plan"] ["plan"] 0 revA := fun _ _ _ _ _ _ us ws h1 h2 => match us, ws, h1, h2 with
  | [], [_], _, _ => rfl
theorem kr_needless_plan {vs : List V} {us : List Value} {zs : List V} {ws : List Value} (h1 : Vals vs us) (h2 : Vals zs ws) (h3 : zs.length = ["plan"].length) (h4 : vs.length = 0) : Vals (revA vs zs) (revA us ws) := kr_rev0 h1 h2 h3 h4
theorem kb_room_of_side_time_plan : KwOk "room_of" "room_of" s_room_of ["plan", "time", "side"] ["side", "time", "plan"] 0 revA := fun _ _ _ _ _ _ us ws h1 h2 => match us, ws, h1, h2 with
  | [], [_, _, _], _, _ => rfl
theorem kr_room_of_side_time_plan {vs : List V} {us : List Value} {zs : List V} {ws : List Value} (h1 : Vals vs us) (h2 : Vals zs ws) (h3 : zs.length = ["side", "time", "plan"].length) (h4 : vs.length = 0) : Vals (revA vs zs) (revA us ws) := kr_rev0 h1 h2 h3 h4
/-- the sides up to a time, and at it the first few -/
def sidesUp (i m : Nat) : List (Nat × Bool) := sidesTo i ++ (sidesAt i).take m
theorem sidesUp_one (i : Nat) : sidesUp i 1 = sidesUp i 0 ++ [(i + 1, true)] := by
  unfold sidesUp
  rw [List.append_assoc]
  rfl
theorem sidesUp_two (i : Nat) : sidesUp i 2 = sidesUp i 1 ++ [(i + 1, false)] := by
  unfold sidesUp
  rw [List.append_assoc]
  rfl
theorem sidesUp_next (i : Nat) : sidesUp (i + 1) 0 = sidesUp i 2 := by
  unfold sidesUp
  rw [sidesTo_succ]
  show sidesTo i ++ sidesAt i ++ [] = _
  rw [List.append_nil]
  rfl
theorem sidesUp_at {i m : Nat} (h : m < 2) : sidesUp i (m + 1) = sidesUp i m ++ [(i + 1, decide (m = 0))] := by
  rcases (show m = 0 ∨ m = 1 by omega) with rfl | rfl
  · exact sidesUp_one i
  · exact sidesUp_two i
theorem sidesUp_len {i m : Nat} : (sidesUp i m).length ≤ 2 * i + 2 := by
  unfold sidesUp
  rw [List.length_append, sidesTo_len, List.length_take]
  show 2 * i + min m 2 ≤ _
  omega
theorem up_len {H : Hp} {us : List Addr} {i m : Nat} {p : Nat × Bool → Bool} (t : TL H us (((sidesUp i m).filter p).map sideV)) : us.length ≤ 2 * i + 2 := by
  have h1 := t.1
  rw [List.length_map] at h1
  have h2 := List.length_filter_le p (sidesUp i m)
  have h3 := sidesUp_len (i := i) (m := m)
  omega
/-- those of a list that are told, as data -/
abbrev sideO (p : Nat × Bool) : Od := .tup [.int (p.1 : Nat), .str (sdS p.2)]
theorem TL.oall {H : Hp} : ∀ {ts : List Addr} {ps : List (Nat × Bool)}, TL H ts (ps.map sideV) → OAll H (ts.map V.ref) (ps.map sideO)
  | [], [], _ => .nil
  | [], p :: ps, t => by cases t.1
  | t :: ts, [], h => by cases h.1
  | t :: ts, p :: ps, h => .cons (.tup (h.2 0 t rfl) (.cons (.int _) (.cons (.str _) .nil))) (TL.oall ⟨Nat.succ.inj h.1, fun i a hi => h.2 (i + 1) a hi⟩)
theorem ak_sides (ps : List (Nat × Bool)) (h : ps.length ≤ 10000) : Ak 2 (.lst (ps.map sideO)) := .lst (by rw [List.length_map]; exact h) fun d hd => by
  obtain ⟨p, _, rfl⟩ := List.mem_map.mp hd
  exact .tup (by show 2 ≤ 10000; omega) fun d hd => by
    rcases List.mem_cons.mp hd with rfl | hd
    · exact .int _
    · rw [List.mem_singleton.mp hd]
      exact .str _
/-- two such lists in a list are alike -/
theorem ak_two {H : Hp} {Q : VK} {a b a0 a1 b0 b1 : Addr} {t0 t1 u0 u1 : List Addr} {p0 p1 : List (Nat × Bool)} {K : PySem.W.Frag} (ha : H a = some (.lst [.ref a0, .ref a1])) (hb : H b = some (.lst [.ref b0, .ref b1])) (h0 : H a0 = some (.lst (t0.map V.ref))) (h1 : H a1 = some (.lst (t1.map V.ref))) (g0 : H b0 = some (.lst (u0.map V.ref))) (g1 : H b1 = some (.lst (u1.map V.ref)))
    (l0 : TL H t0 (p0.map sideV)) (l1 : TL H t1 (p1.map sideV)) (m0 : TL H u0 (p0.map sideV)) (m1 : TL H u1 (p1.map sideV)) (z0 : p0.length ≤ 10000) (z1 : p1.length ≤ 10000) (k : ∀ H', Fr [] H H' → Q (.bl true) H') : sp__law_alike K ([V.ref a, V.ref b] ++ []) H Q E0 :=
  ⟨.ref a, .ref b, .lst [.lst (p0.map sideO), .lst (p1.map sideO)], rfl, .lst ha (.cons (.lst h0 l0.oall) (.cons (.lst h1 l1.oall) .nil)), .lst hb (.cons (.lst g0 m0.oall) (.cons (.lst g1 m1.oall) .nil)), .lst (by show 2 ≤ 10000; omega) fun d hd => by
    rcases List.mem_cons.mp hd with rfl | hd
    · exact ak_sides p0 z0
    · rw [List.mem_singleton.mp hd]
      exact ak_sides p1 z1, k⟩
theorem filt_snoc {p : Nat × Bool → Bool} {l : List (Nat × Bool)} {x : Nat × Bool} : (l ++ [x]).filter p = l.filter p ++ if p x = true then [x] else [] := by
  rw [List.filter_append]
  congr 1
  by_cases c : p x = true
  · rw [List.filter_cons_of_pos c, if_pos c]
    rfl
  · rw [List.filter_cons_of_neg c, if_neg c]
    rfl
theorem LP.frx {H H' : Hp} {zs : List (Addr × List Int)} {c : Addr} (m : LP H zs) (h : ∀ q ∈ zs, q.1 ≠ c) (f : Fr [c] H H') : LP H' zs := fun q hq => f _ _ (fun z => h q hq (List.mem_singleton.mp z)) (m q hq)
theorem TL.frx {H H' : Hp} {ts : List Addr} {vs : List (List V)} {c : Addr} {xs : List V} (t : TL H ts vs) (hc : H c = some (.lst xs)) (f : Fr [c] H H') : TL H' ts vs := ⟨t.1, fun i a h => f _ _ (fun m => by
  rw [List.mem_singleton] at m
  have := t.2 _ a h
  rw [m, hc] at this
  cases this) (t.2 i a h)⟩
theorem minL_pos {d : PD} (ok : d.Ok) (has : d.Has) : 0 < (minL (allTo d d.L.length)).length := by
  obtain ⟨X, b⟩ := has.best
  exact List.length_pos_of_mem ((all_best ok has).mpr ⟨rowOf_len, best_list b⟩)
theorem ref_at0 {zs : List (Addr × List Int)} (h : 0 < zs.length) : atI (refP zs) 0 = some (.ref zs[0].1) := by
  have e : (refP zs)[0]? = some (.ref zs[0].1) := by rw [List.getElem?_map, List.getElem?_eq_getElem h]; rfl
  exact atI_nat e
section
variable {P : Program} {w : World} {K : PySem.W.Frag} {mg : Str → Option Value} {base : Heap}
def sp_law (K : PySem.W.Frag) : Sp := fun vs H Q _ => ∃ (a : Addr) (ns : List Int), vs = [.ref a] ∧ SqL K H a (ns.map V.int) ∧ ns.length ≤ 63 ∧ ∀ H', Q (.bl true) H'
theorem k_law (T : Tx fa fn K mg base) : Fk P w K mg base "law" ["script"] 12 (sp_law K) s_law "law" := by
  refine T.fk 53 74 (q := "law") (st := s_law) sc_law (fun _ _ _ _ _ _ us hl => match us, hl with | [_], _ => rfl) (fun vs H Q E h => ?_) (fun cdv A outer s H vs Q E hr h => ?_)
  · obtain ⟨a, ns, rfl, _⟩ := h
    rfl
  · obtain ⟨a, ns, rfl, hs, hl, k⟩ := h
    refine ⟨_, (pss_cons (ps_set (i := 1) sc_law.nd rfl (by first | exact Or.inl rfl | exact Or.inr rfl) (pe_f (k__law_bag T) hr (pa_cons (pv 0) pa_nil)))
      (pss_cons (ps_for PassesOwn.never rfl (pi_range1 (by rfl) (T.fr 13) (pa_cons pe_int pa_nil)) (pg_name (i := 2) sc_law.nd rfl (by first | exact Or.inl rfl | exact Or.inr rfl)) (pss_cons (ps_set (i := 3) sc_law.nd rfl (by first | exact Or.inl rfl | exact Or.inr rfl) (pe_f (k__law_box T) hr (pa_cons (pv 1) (pa_cons pe_int (pa_cons pe_int pa_nil)))))
      (pss_cons (ps_par3 (i := 4) (j := 5) (l := 6) (by rfl) sc_law.nd rfl rfl rfl (by decide) (by decide) (by decide) rfl rfl rfl (pa_cons (pe_f (k__law_plan T) hr (pa_cons (pv 3) pa_nil)) (pa_cons (pe_f (k__law_best T) hr (pa_cons (pe_f (k__law_all T) hr (pa_cons (pv 3) pa_nil)) pa_nil)) (pa_cons (pe_tup (pa_cons (pe_lst pa_nil) (pa_cons (pe_lst pa_nil) pa_nil))) pa_nil))) (by rfl))
      (pss_cons (ps_for PassesOwn.never rfl (pi_range2 (by rfl) (T.fr 13) (pa_cons pe_int (pa_cons (pe_callB call_len_seq (by rfl) (T.fr 6) (by decide +kernel) (pa_cons (pe_ix ix_tup (pv 3) pe_int (fun _ _ => rfl)) pa_nil)) pa_nil))) (pg_name (i := 7) sc_law.nd rfl (by first | exact Or.inl rfl | exact Or.inr rfl)) (pss_one (ps_for PassesOwn.never rfl (pi_list (pe_lst (pa_cons pe_str (pa_cons pe_str pa_nil)))) (pg_name (i := 8) sc_law.nd rfl (by first | exact Or.inl rfl | exact Or.inr rfl)) (pss_cons (ps_set (i := 9) sc_law.nd rfl (by first | exact Or.inl rfl | exact Or.inr rfl) (pe_f (k__law_all T) hr (pa_cons (pe_f (k__law_loose T) hr (pa_cons (pv 3) (pa_cons (pv 7) (pa_cons (pv 8) pa_nil)))) pa_nil)))
      (pss_cons (ps_set (i := 10) sc_law.nd rfl (by first | exact Or.inl rfl | exact Or.inr rfl) (pe_m (pv 4) (k_Plan_loosened T) hr (pa_cons (pv 7) (pa_cons (pv 8) pa_nil))))
      (pss_cons (ps_if (PW.pt (pw_or (pt_cmpR (op_neD hr.units) (pe_lc (own := [("row", 12)]) (tt := (tNot (tB (tCall (sp_is_row K) [] E0 (tCons (tVar 10) (tCons (tVar 12) tNil)))))) (te := (tVar 12)) rfl sc_law.nd (pi_list (pv 9)) (blkOk_by (N := ["script", "bag", "turn", "box", "made", "best", "due", "k", "edge", "rows", "loose", "told", "row"]) (sc := defScope s_law) (by decide +kernel)) (fun _ _ _ _ _ => (pg_name (i := 12) sc_law.nd rfl (by first | exact Or.inl rfl | exact Or.inr rfl))) (fun _ _ _ _ _ => (pts_one (pt_not (pt_val (pe_f (k_is_row T) hr (pa_cons (pv 10) (pa_cons (pv 12) pa_nil))))))) (fun _ _ _ _ _ => (pv 12))) (pe_lst pa_nil) (nomark _)) (pw_or1 (pt_not (pt_val (pe_f (k__law_room_right T) hr (pa_cons (pv 3) (pa_cons (pv 5) (pa_cons (pv 7) (pa_cons (pv 8) pa_nil)))))))))) (pss_one (ps_ret pe_bl)) pss_nil)
      (Evl.pss_cut (ps_if (pt_cmpR (op_eqD hr.units) (pe_f (k__law_best T) hr (pa_cons (pv 9) pa_nil)) (pv 5) (nomark _)) (pss_one (ps_expr (pe_bm PySem.F.plainAttrs_list PySem.F.slot_list_append PySem.F.type_list_append mt_append (pe_ix ix_tup (pv 6) pe_int (fun _ _ => rfl)) (pa_cons (pe_tup (pa_cons (pv 7) (pa_cons (pv 8) pa_nil))) pa_nil)))) pss_nil)
      (pss_one (ps_if (pt_cmpR (op_eqD hr.units) (pe_callB cr_sortedI (by rfl) (T.fr 42) (by decide +kernel) (pa_cons (pe_ix ix_list (pe_f (k__law_best T) hr (pa_cons (pv 9) pa_nil)) pe_int (fun _ _ => rfl)) pa_nil)) (pe_callB cr_sortedI (by rfl) (T.fr 42) (by decide +kernel) (pa_cons (pe_ix ix_list (pv 5) pe_int (fun _ _ => rfl)) pa_nil)) (nomark _)) (pss_one (ps_expr (pe_bm PySem.F.plainAttrs_list PySem.F.slot_list_append PySem.F.type_list_append mt_append (pe_ix ix_tup (pv 6) pe_int (fun _ _ => rfl)) (pa_cons (pe_tup (pa_cons (pv 7) (pa_cons (pv 8) pa_nil))) pa_nil)))) pss_nil)))))))))
      (pss_cons (ps_set (i := 11) sc_law.nd rfl (by first | exact Or.inl rfl | exact Or.inr rfl) (pe_lst (pa_cons (pe_f (k_needless T) hr (pa_cons (pv 4) pa_nil)) (pa_cons (pe_fK (k_idle T) hr (kb_idle_plan) (kr_idle_plan) (pk_cons (pv 4) pk_nil)) pa_nil))))
      (pss_cons (ps_if (pt_not (pt_val (pe_f (k__law_alike T) hr (pa_cons (pv 11) (pa_cons (pe_lst (pa_cons (pe_ix ix_tup (pv 6) pe_int (fun _ _ => rfl)) (pa_cons (pe_ix ix_tup (pv 6) pe_int (fun _ _ => rfl)) pa_nil))) pa_nil))))) (pss_one (ps_ret pe_bl)) pss_nil)
      (pss_cons (ps_expr (pe_bm PySem.F.plainAttrs_list PySem.F.slot_list_append PySem.F.type_list_append mt_append (pe_ix ix_list (pv 11) pe_int (fun _ _ => rfl)) (pa_cons pe_non pa_nil)))
      (pss_cons (ps_expr (pe_bm PySem.F.plainAttrs_list PySem.F.slot_list_append PySem.F.type_list_append mt_append (pe_ix ix_list (pv 11) pe_int (fun _ _ => rfl)) (pa_cons pe_non pa_nil)))
      (pss_one (ps_if (PW.pt (pw_or (pt_not (pt_val (pe_f (k__law_alike T) hr (pa_cons (pe_lst (pa_cons (pe_fK (k_needless T) hr (kb_needless_plan) (kr_needless_plan) (pk_cons (pv 4) pk_nil)) (pa_cons (pe_f (k_idle T) hr (pa_cons (pv 4) pa_nil)) pa_nil))) (pa_cons (pe_lst (pa_cons (pe_ix ix_tup (pv 6) pe_int (fun _ _ => rfl)) (pa_cons (pe_ix ix_tup (pv 6) pe_int (fun _ _ => rfl)) pa_nil))) pa_nil))))) (pw_or1 (pt_cmpR (op_neP (k_Plan___eq__ T) (T.findB 72) (T.mroI 73) (hr.mono (by decide))) (pv 4) (pe_f (k__law_plan T) hr (pa_cons (pv 3) pa_nil)) (nomark _))))) (pss_one (ps_ret pe_bl)) pss_nil))))))))))
      (pss_cons (ps_set (i := 4) sc_law.nd rfl (by first | exact Or.inl rfl | exact Or.inr rfl) (pe_mk (k_Plan___init__ T) (T.glo 27) hr (pa_cons (pe_lst (pa_cons pe_int (pa_cons pe_int (pa_cons pe_int (pa_cons pe_int pa_nil))))) (pa_cons (pe_lst (pa_cons pe_int (pa_cons pe_int (pa_cons pe_int (pa_cons pe_int pa_nil))))) (pa_cons (pe_op op_rep (pe_lst (pa_cons pe_int pa_nil)) pe_int) (pa_cons (pe_op op_rep (pe_lst (pa_cons pe_int pa_nil)) pe_int) pa_nil))))))
      (pss_cons (ps_set (i := 11) sc_law.nd rfl (by first | exact Or.inl rfl | exact Or.inr rfl) (pe_lst (pa_cons (pe_f (k_room_of T) hr (pa_cons (pv 4) (pa_cons pe_int (pa_cons pe_str pa_nil)))) (pa_cons (pe_f (k_room_of T) hr (pa_cons (pv 4) (pa_cons pe_int (pa_cons pe_str pa_nil)))) (pa_cons (pe_f (k_room_of T) hr (pa_cons (pv 4) (pa_cons pe_int (pa_cons pe_str pa_nil)))) pa_nil)))))
      (pss_cons (ps_expr (pe_bm PySem.F.plainAttrs_list PySem.F.slot_list_append PySem.F.type_list_append mt_append (pv 11) (pa_cons (pe_fK (k_room_of T) hr (kb_room_of_side_time_plan) (kr_room_of_side_time_plan) (pk_cons pe_str (pk_cons pe_int (pk_cons (pv 4) pk_nil)))) pa_nil)))
      (pss_cons (ps_expr (pe_bm PySem.F.plainAttrs_list PySem.F.slot_list_append PySem.F.type_list_append mt_append (pv 11) (pa_cons (pe_f (k_needless T) hr (pa_cons (pv 4) pa_nil)) pa_nil)))
      (pss_one (ps_ret (pe_f (k__law_alike T) hr (pa_cons (pv 11) (pa_cons (pe_lst (pa_cons pe_int (pa_cons pe_int (pa_cons pe_int (pa_cons pe_int (pa_cons (pe_lst (pa_cons (pe_tup (pa_cons pe_int (pa_cons pe_str pa_nil))) (pa_cons (pe_tup (pa_cons pe_int (pa_cons pe_str pa_nil))) (pa_cons (pe_tup (pa_cons pe_int (pa_cons pe_str pa_nil))) (pa_cons (pe_tup (pa_cons pe_int (pa_cons pe_str pa_nil))) (pa_cons (pe_tup (pa_cons pe_int (pa_cons pe_str pa_nil))) pa_nil)))))) pa_nil)))))) pa_nil))))))))))), ?_⟩
    walk_at "ev0"
    refine ⟨a, ns, rfl, hs, hl, fun ls j H1 hj f1 J1 => ?_⟩
    walk_at "ev"
    refine ⟨by decide, by decide, ?_⟩
    refine for_it (walk_range (lo := 0)) (fun i σ H' => ∃ (u2 u3 u4 u5 u6 u7 u8 u9 u10 u11 : Option V), σ = [some (.ref a), some (.ref j), u2, u3, u4, u5, u6, u7, u8, u9, u10, u11, none] ∧ JarAt ls H' j (998000 - 1000 * i))
      ⟨none, none, none, none, none, none, none, none, none, none, rfl, J1.le (by omega)⟩ (fun _ _ _ _ _ => trivial) (fun i x σ H2 H2' hi pv y => ?_) (fun σ H2 pv => ?_)
    · obtain ⟨u2, u3, u4, u5, u6, u7, u8, u9, u10, u11, rfl, J2⟩ := pv
      obtain ⟨rfl, rfl⟩ := y
      have hi4 : i < 4 := hi
      walk_at "ev"
      refine ⟨ls, j, 4, 998000 - 1000 * i - 100, rfl, J2.le (by omega), by decide, fun t l1 l2 l3 l4 d es H3 f3 J3 n3 r3 bx h3 => ?_⟩
      have ra3 : RawAt [] H3 true t d := n3.raw fun x m => nomatch m
      have ok := r3.ok (by omega) (by omega)
      have has := r3.has (by omega)
      have sm := r3.sm (by omega)
      have lL := r3.lL
      have bd := bd_of_sm ok sm
      have one := ok.one
      have smc : SmC d := fun i hi => ⟨bx.a i (by omega), bx.b i (by omega), bx.v i (by omega)⟩
      have h5 : es.length ≤ 5 := by omega
      walk_at "ev"
      refine ⟨t, d, rfl, ra3, ok, fun p H4 f4 n4 => ?_⟩
      have ra4 := ra3.mono f4
      walk_at "ev"
      refine ⟨t, d, rfl, ra4, ok, smc, by omega, fun a5 H5 ws ha5 f5 g5 ll5 => ?_⟩
      obtain ⟨lp5, er5, em5⟩ := ll5.lp
      rw [er5] at g5
      have sz5 : ∀ z ∈ ws.zip (allTo d d.L.length), z.2.length ≤ 1000 ∧ ∀ x ∈ z.2, -100 ≤ x ∧ x ≤ 100 := fun z hz => smC_rows ok smc (by omega) (by rw [← em5]; exact List.mem_map.mpr ⟨z, hz, rfl⟩)
      have ln5 : (ws.zip (allTo d d.L.length)).length = (allTo d d.L.length).length := by
        conv => rhs; rw [← em5]
        rw [List.length_map]
      have pos5 := all_pos has
      have al5 := all_len5 ok smc (by omega)
      walk_at "ev"
      refine ⟨a5, _, rfl, g5, lp5, ⟨by rw [ln5]; exact List.length_pos_iff.mpr pos5, by omega⟩, sz5, fun b6 zs H6 hb6 f6 g6 sub6 zm => ?_⟩
      rw [em5] at zm
      have lp6 := (lp5.fr f6).sub sub6
      have ra6 := (ra4.mono f5).mono f6
      have pd6 := (n4.at.mono f5).mono f6
      have J6 := ((J3.fr f4).fr f5).fr f6
      clear lp5 sub6 ln5 pos5 al5 sz5 em5 er5 g5 ll5 n4 n3 ra3 ra4 J3 f3 f4 f5 f6
      walk_at "ev"
      intro D0 kD0
      have z7 := (Z.start0 H6).alloc (.lst []) kD0
      walk_at "ev"
      intro D1 kD1
      have z8 := z7.alloc (.lst []) kD1
      walk_at "ev"
      intro td ktd
      have z9 := z8.alloc (.tup [.ref D0, .ref D1]) ktd
      have dn := d.L.length
      have zero : ∀ p, (sidesUp 0 0).filter p = [] := fun p => rfl
      have h0 : ∀ {G : Hp}, Fr [] H6 G → ∃ l1 l2 l3 l4, G t = some (.tup [.ref l1, .ref l2, .ref l3, .ref l4]) ∧ G l1 = some (.lst (d.L.map V.int)) := fun f => by
        obtain ⟨l1, l2, l3, l4, h0, ⟨h1, _⟩, _⟩ := (ra6.mono f).ex
        exact ⟨l1, l2, l3, l4, h0, h1⟩
      obtain ⟨l1, l2, l3, l4, h09, h19⟩ := h0 (z9.fr0 (by simp))
      walk_at "ev"
      rw [List.length_map]
      refine ⟨⟨by decide, by decide, by omega, by omega⟩, ?_⟩
      rw [show ((d.L.length : Int) - 1).toNat = d.L.length - 1 by omega]
      refine for_it (walk_range (lo := 1)) (fun i2 σ H' => ∃ (u7 u8 u9 u10 u11 : Option V) (us0 us1 : List Addr), σ = [some (.ref a), some (.ref j), some (.int (0 + (i : Int))), some (.ref t), some (.ref p), some (.ref b6), some (.ref td), u7, u8, u9, u10, u11, none] ∧
        Z H6 H' [(2, td, .tup [.ref D0, .ref D1]), (2, D1, .lst (us1.map V.ref)), (2, D0, .lst (us0.map V.ref))] ∧ TL H' us0 (((sidesUp i2 0).filter (nbB d)).map sideV) ∧ TL H' us1 (((sidesUp i2 0).filter (idB d)).map sideV))
        ⟨u7, u8, u9, u10, u11, [], [], rfl, z9, by rw [zero]; exact TL.nil _, by rw [zero]; exact TL.nil _⟩ (fun _ _ _ _ _ => trivial) (fun i2 x σ H10 H10' hi2 pv y => ?_) (fun σ H10 pv => ?_)
      · obtain ⟨u7, u8, u9, u10, u11, us0, us1, rfl, z10, t0, t1⟩ := pv
        obtain ⟨rfl, rfl⟩ := y
        have hi2 : i2 < d.L.length - 1 := hi2
        have ek : (1 : Int) + (i2 : Int) = ((i2 + 1 : Nat) : Int) := by omega
        simp only [ek]
        clear z7 z8 z9 h09 h19 kD0 kD1 ktd
        walk_at "ev"
        intro a8 ka8
        have f8 : Fr [] H10' (upd H10' a8 (.lst [.str "high", .str "low"])) := (Fr.refl _).new ka8
        have z11 := z10.alloc (.lst [.str "high", .str "low"]) ka8
        have s0 := t0.fr0 f8
        have s1 := t1.fr0 f8
        walk_at "ev"
        refine for_it (walk_list (xs := [.str "high", .str "low"])) (fun m σ H' => ∃ (u8 u9 u10 : Option V) (us0 us1 : List Addr), σ = [some (.ref a), some (.ref j), some (.int (0 + (i : Int))), some (.ref t), some (.ref p), some (.ref b6), some (.ref td), some (.int ((i2 + 1 : Nat) : Int)), u8, u9, u10, u11, none] ∧
          Z H6 H' [(2, a8, .lst [.str "high", .str "low"]), (2, td, .tup [.ref D0, .ref D1]), (2, D1, .lst (us1.map V.ref)), (2, D0, .lst (us0.map V.ref))] ∧ TL H' us0 (((sidesUp i2 m).filter (nbB d)).map sideV) ∧ TL H' us1 (((sidesUp i2 m).filter (idB d)).map sideV))
          ⟨u8, u9, u10, us0, us1, rfl, z11, s0, s1⟩ (fun m σ H' _ pv => ?_) (fun m x σ H12 H12' hm pv y => ?_) (fun σ H12 pv => ?_)
        · obtain ⟨_, _, _, _, _, _, z, _⟩ := pv
          exact SqL.of (z.get (.head _))
        · clear t0 t1 s0 s1 z10 z11 f8
          obtain ⟨u8, u9, u10, us0, us1, rfl, z12, t0, t1⟩ := pv
          obtain ⟨rfl, hx⟩ := y
          have hm : m < 2 := hm
          obtain ⟨up, eup, rfl⟩ : ∃ up, up = decide (m = 0) ∧ x = .str (sdS up) := by
            rcases (show m = 0 ∨ m = 1 by omega) with rfl | rfl
            · exact ⟨true, rfl, (Option.some.inj hx).symm⟩
            · exact ⟨false, rfl, (Option.some.inj hx).symm⟩
          have eside : sidesUp i2 (m + 1) = sidesUp i2 m ++ [(i2 + 1, up)] := by rw [eup]; exact sidesUp_at hm
          have c1 : 1 ≤ i2 + 1 := by omega
          have c2 : i2 + 1 < d.L.length := by omega
          have f12 := z12.fr0 (by simp)
          have ra12 := ra6.mono f12
          have pd12 := pd6.mono f12
          walk_at "ev"
          refine ⟨t, d, i2 + 1, up, rfl, ra12, ok, ⟨c1, by omega⟩, fun q H13 hq f13 rq => ?_⟩
          obtain ⟨i99, ok99, same⟩ := out_same (up := up) ok r3 bx h5 c1 c2
          have nb99 := out_nb (up := up) ok has r3 bx h5 c1 c2
          have id99 := fun {r0 r1 : List Int} => out_idl (up := up) (r0 := r0) (r1 := r1) ok has r3 bx h5 c1 c2
          have sm99 : SmC (d.moved (i2 + 1) up (outI up)) := smc.moved
          have ln99 := (moved_len (d := d) (t := i2 + 1) (up := up) (y := outI up)).1
          have has99 : (d.moved (i2 + 1) up (outI up)).Has := by
            obtain ⟨X, r⟩ := has
            exact ⟨X, (i99.row.mp r).1⟩
          have inn := inn_loose (up := up) ok c1 c2
          have okl := ok.loose (up := up) c1 c2
          generalize d.moved (i2 + 1) up (outI up) = e at rq ok99 same nb99 id99 sm99 ln99 has99 i99
          walk_at "ev"
          refine ⟨q, e, rfl, rq, ok99, sm99, by omega, fun a9 H14 ws ha9 f14 g9 ll9 => ?_⟩
          have z14 := ((z12.same f13).comp f14 ha9 g9)
          have nD : ∀ c o, H13 c = some o → ∀ z ∈ ws.zip (allTo e e.L.length), z.1 ≠ c := fun c o hc z hz e2 => by
            obtain ⟨i3, h3, e3⟩ := List.mem_iff_getElem.mp hz
            rw [List.getElem_zip] at e3
            rw [List.length_zip] at h3
            have := (ll9.at_ i3 _ (List.getElem?_eq_getElem (show i3 < ws.length by omega))).2
            rw [show ws[i3] = c by rw [← e2, ← e3], hc] at this
            cases this
          have nD0 := nD D0 _ (f13 _ _ nin (z12.get (.tail _ (.tail _ (.tail _ (.head _))))))
          have nD1 := nD D1 _ (f13 _ _ nin (z12.get (.tail _ (.tail _ (.head _)))))
          obtain ⟨lp9, er9, em9⟩ := ll9.lp
          rw [er9] at g9 z14
          have f34 := f13.trans f14
          have pd14 := pd12.mono f34
          have t014 := t0.fr0 f34
          have t114 := t1.fr0 f34
          have f614 := f12.trans f34
          have szr : ∀ z ∈ ws.zip (allTo e e.L.length), z.2.length ≤ 1000 ∧ ∀ x ∈ z.2, -100 ≤ x ∧ x ≤ 100 := fun z hz => smC_rows ok99 sm99 (by omega) (by rw [← em9]; exact List.mem_map.mpr ⟨z, hz, rfl⟩)
          have row99 : ∀ z ∈ ws.zip (allTo e e.L.length), z.2 ∈ allTo e e.L.length := fun z hz => by rw [← em9]; exact List.mem_map.mpr ⟨z, hz, rfl⟩
          have lnr : (ws.zip (allTo e e.L.length)).length = (allTo e e.L.length).length := by
            conv => rhs; rw [← em9]
            rw [List.length_map]
          have posr := all_pos has99
          have alr := all_len5 ok99 sm99 (by omega)
          generalize ws.zip (allTo e e.L.length) = zr at *
          clear ll9 nD t0 t1 z12 rq er9 f13 f14 f34 pd12 ra12 f12
          walk_at "ev"
          obtain ⟨dx, _, _, _, _, hp, _⟩ := pd14.ex
          refine ⟨p, dx, _, rfl, hp, rfl, ?_⟩
          walk_at "ev"
          refine ⟨p, d, i2 + 1, up, rfl, pd14, ok, ⟨c1, c2⟩, fun pl H15 f15 n15 => ?_⟩
          have z15 := z14.same f15
          have lp15 := lp9.fr f15
          have pl15 := n15.at
          have t015 := t014.fr0 f15
          have t115 := t114.fr0 f15
          have f615 := f614.trans f15
          have g15 := z15.get (.head _)
          clear hp z14 lp9 n15 t014 t114 f614 pd14 f15
          walk_at "ev"
          refine lc_filt (walk_list (xs := refP zr)) (fun _ => .non) (fun _ => false) (by rw [List.length_map]; omega) (fun H' e => e.sql (SqL.of g15) nin) (fun i H' x H'' y => by rw [y.1]; exact Fr.refl _) (fun i3 x H' H'' R' N hi3 e16 y kR kN => ?_) (fun D16 H16 hD16 e16 g16 => ?_)
          · obtain ⟨rfl, hx⟩ := y
            rw [List.length_map] at hi3
            rw [List.getElem?_map, List.getElem?_eq_getElem hi3] at hx
            obtain rfl := Option.some.inj hx
            have hm3 := List.getElem_mem hi3
            obtain ⟨lr, rr⟩ := all_iff.mp (row99 _ hm3)
            have ll := inn.len
            have gr := (lp15.fr e16) _ hm3
            walk_at "ev"
            refine ⟨rfl, ?_⟩
            walk_at "ev"
            refine ⟨pl, _, _, _, rfl, pl15.mono e16, okl, gr, ⟨by omega, by omega⟩, fun H3 f3 => ?_⟩
            rw [row_of_X okl (by omega) ((same _).mp rr)]
            walk_at "ev"
            exact kN rfl _ f3
          have g16 : H16 D16 = some (.lst (([] : List Int).map V.int)) := by
            rw [g16]
            simp
          have z16 := z15.comp e16 hD16 g16
          walk_at "ev"
          intro a17 k17
          have z17 := z16.alloc (.lst (([] : List Int).map V.int)) k17
          have f17 : Fr [] H16 (upd H16 a17 (.lst (([] : List Int).map V.int))) := (Fr.refl _).new k17
          refine r_neI (SqL.of (z17.get (.tail _ (.head _)))) (SqL.of (z17.get (.head _))) ?_
          rw [decide_eq_true rfl]
          have f1517 := e16.trans f17
          have f617 := f615.trans f1517
          have ra17 := ra6.mono f617
          have lp617 := lp6.fr f617
          have gb17 := f617 _ _ nin g6
          walk_at "ev"
          refine ⟨t, b6, d, i2 + 1, up, zs, rfl, ra17, ok, has, sm, ⟨smc, by omega⟩, gb17, lp617, zm, ⟨c1, c2⟩, fun H18 f18 => ?_⟩
          have z18 := (z17.same f18).sub (E' := [(2, a9, .lst (refP zr)), (2, a8, .lst [.str "high", .str "low"]), (2, td, .tup [.ref D0, .ref D1]), (2, D1, .lst (us1.map V.ref)), (2, D0, .lst (us0.map V.ref))]) (.cons _ (.cons _ (List.Sublist.refl _))) (by simp)
          have f1518 := f1517.trans f18
          have lp18 := lp15.fr f1518
          have t018 := t015.fr0 f1518
          have t118 := t115.fr0 f1518
          have lp618 := lp617.fr f18
          have gb18 := f18 _ _ nin gb17
          clear z15 z16 z17 lp15 pl15 t015 t115 g15 g16 f615 f17 f1517 f617 ra17 lp617 gb17 f18 f1518 k17 hD16 e16
          have szm : 0 < zr.length ∧ zr.length ≤ 10000 := ⟨by rw [lnr]; exact List.length_pos_iff.mpr posr, by omega⟩
          clear lnr posr alr
          walk_at "ev"
          refine Evl.q_cut (M := fun σ' H' => ∃ vs0 : List Addr, σ' = [some (.ref a), some (.ref j), some (.int (0 + (i : Int))), some (.ref t), some (.ref p), some (.ref b6), some (.ref td), some (.int ((i2 + 1 : Nat) : Int)), some (.str (sdS up)), some (.ref a9), some (.ref pl), u11, none] ∧
            Z H6 H' [(2, a9, .lst (refP zr)), (2, a8, .lst [.str "high", .str "low"]), (2, td, .tup [.ref D0, .ref D1]), (2, D1, .lst (us1.map V.ref)), (2, D0, .lst (vs0.map V.ref))] ∧ TL H' vs0 (((sidesUp i2 (m + 1)).filter (nbB d)).map sideV) ∧ TL H' us1 (((sidesUp i2 m).filter (idB d)).map sideV) ∧ LP H' zr) ?_ ?_
          · walk_at "ev"
            refine ⟨a9, zr, rfl, z18.get (.head _), lp18, szm, szr, fun D19 ys H19 hD19 f19 g19 sub19 ey19 => ?_⟩
            rw [em9] at ey19
            have z19 := z18.same f19
            have t019 := t018.fr0 f19
            have t119 := t118.fr0 f19
            have lp19 := lp18.fr f19
            walk_at "ev"
            refine r_eqLD g19 (f19 _ _ nin gb18) (lp19.sub sub19).ll (lp618.fr f19).ll ?_
            rw [ey19, zm]
            walk_at "ev"
            refine r_ite (fun c => ?_) (fun c => ?_)
            · have nb := nb99.mp c
              walk_at "ev"
              intro a20 k20
              have z20 := z19.alloc (.tup [.int ((i2 + 1 : Nat) : Int), .str (sdS up)]) k20
              have f20 : Fr [] H19 (upd H19 a20 (.tup [.int ((i2 + 1 : Nat) : Int), .str (sdS up)])) := (Fr.refl _).new k20
              have t020 := (t019.more (o := .tup [.int ((i2 + 1 : Nat) : Int), .str (sdS up)]) k20).add (v := [.int ((i2 + 1 : Nat) : Int), .str (sdS up)]) upd_same
              have t120 := t119.fr0 f20
              have lp20 := lp19.fr f20
              have gD0 := z20.get (.tail _ (.tail _ (.tail _ (.tail _ (.tail _ (.head _))))))
              have z21 := z20.set 5 (.lst (us0.map V.ref ++ [.ref a20])) rfl (.inr rfl)
              have e21 : us0.map V.ref ++ [V.ref a20] = (us0 ++ [a20]).map V.ref := by rw [List.map_append]; rfl
              rw [e21] at z21
              have f21 : Fr [D0] (upd H19 a20 (.tup [.int ((i2 + 1 : Nat) : Int), .str (sdS up)])) (upd (upd H19 a20 (.tup [.int ((i2 + 1 : Nat) : Int), .str (sdS up)])) D0 (.lst ((us0 ++ [a20]).map V.ref))) := fun b o hb h => by
                rw [upd_ne (fun z => hb (by rw [z]; exact List.mem_cons_self))]
                exact h
              have ul := up_len t019
              walk_at "ev"
              rw [e21]
              refine ⟨us0 ++ [a20], rfl, z21.sub (.cons _ (List.Sublist.refl _)) (by simp), ?_, t120.frx gD0 f21, lp20.frx nD0 f21⟩
              have t3 := t020.frx gD0 f21
              have e3 : ((sidesUp i2 m).filter (nbB d)).map sideV ++ [[V.int ((i2 + 1 : Nat) : Int), V.str (sdS up)]] = ((sidesUp i2 (m + 1)).filter (nbB d)).map sideV := by
                rw [eside, filt_snoc, if_pos (nbB_t nb), List.map_append]
                rfl
              rw [e3] at t3
              exact t3
            · have nb : ¬ NB d (i2 + 1) up := fun z => c (nb99.mpr z)
              walk_at "ev"
              refine ⟨us0, rfl, z19, ?_, t119, lp19⟩
              rw [eside, filt_snoc, if_neg (by rw [nbB_f nb]; exact Bool.false_ne_true), List.append_nil]
              exact t019
          rintro σ' H22 ⟨vs0, rfl, z22, t022, t122, lp22⟩
          clear z18 lp18 t018 t118 lp618 gb18
          have f22 := z22.fr0 (by simp)
          have gb22 := f22 _ _ nin g6
          have lp622 := lp6.fr f22
          walk_at "ev"
          refine ⟨a9, zr, rfl, z22.get (.head _), lp22, szm, szr, fun D23 ys H23 hD23 f23 g23 sub23 ey23 => ?_⟩
          rw [em9] at ey23
          have z23 := z22.same f23
          have t023 := t022.fr0 f23
          have t123 := t122.fr0 f23
          have lp23 := (lp22.fr f23).sub sub23
          have lp623 := lp622.fr f23
          have gb23 := f23 _ _ nin gb22
          have posy : 0 < ys.length := by
            have h := minL_pos ok99 has99
            rw [← ey23, List.length_map] at h
            exact h
          have posz : 0 < zs.length := by
            have h := minL_pos ok has
            rw [← zm, List.length_map] at h
            exact h
          have my : ys[0].2 ∈ minL (allTo e e.L.length) := by rw [← ey23]; exact List.mem_map.mpr ⟨_, List.getElem_mem posy, rfl⟩
          have mz : zs[0].2 ∈ minL (allTo d d.L.length) := by rw [← zm]; exact List.mem_map.mpr ⟨_, List.getElem_mem posz, rfl⟩
          have gy := lp23 _ (List.getElem_mem posy)
          have gz := lp623 _ (List.getElem_mem posz)
          have id1 := id99 my mz
          walk_at "ev"
          refine r_at (ref_at0 posy) ?_
          walk_at "ev"
          refine ⟨_, _, rfl, SqL.of gy, fun s1 q1 pm1 so1 hq1 => ?_⟩
          have f25 : Fr [] H23 (upd H23 q1 (.lst (s1.map V.int))) := (Fr.refl _).new hq1
          have z25 := z23.alloc (.lst (s1.map V.int)) hq1
          have gb25 := f25 _ _ nin gb23
          have gz25 := f25 _ _ nin gz
          walk_at "ev"
          refine r_at (ref_at0 posz) ?_
          walk_at "ev"
          refine ⟨_, _, rfl, SqL.of gz25, fun s2 q2 pm2 so2 hq2 => ?_⟩
          have f26 : Fr [] (upd H23 q1 (.lst (s1.map V.int))) (upd (upd H23 q1 (.lst (s1.map V.int))) q2 (.lst (s2.map V.int))) := (Fr.refl _).new hq2
          have z26 := z25.alloc (.lst (s2.map V.int)) hq2
          have f2326 := f25.trans f26
          have t026 := t023.fr0 f2326
          have t126 := t123.fr0 f2326
          have id2 := (sort_perm pm1 pm2 so1 so2).trans id1
          refine r_eqI (SqL.of (z26.get (.tail _ (.head _)))) (SqL.of (z26.get (.head _))) ?_
          walk_at "ev"
          refine r_ite (fun c => ?_) (fun c => ?_)
          · have idl := id2.mp c
            walk_at "ev"
            intro a27 k27
            have z27 := z26.alloc (.tup [.int ((i2 + 1 : Nat) : Int), .str (sdS up)]) k27
            have t127 := (t126.more (o := .tup [.int ((i2 + 1 : Nat) : Int), .str (sdS up)]) k27).add (v := [.int ((i2 + 1 : Nat) : Int), .str (sdS up)]) upd_same
            have t027 := t026.more (o := .tup [.int ((i2 + 1 : Nat) : Int), .str (sdS up)]) k27
            have gD1 := z27.get (.tail _ (.tail _ (.tail _ (.tail _ (.tail _ (.tail _ (.head _)))))))
            have z28 := z27.set 6 (.lst (us1.map V.ref ++ [.ref a27])) rfl (.inr rfl)
            have e28 : us1.map V.ref ++ [V.ref a27] = (us1 ++ [a27]).map V.ref := by rw [List.map_append]; rfl
            rw [e28] at z28
            have ul := up_len t126
            have f28 : ∀ (G : Hp), Fr [D1] G (upd G D1 (.lst ((us1 ++ [a27]).map V.ref))) := fun G b o hb h => by
              rw [upd_ne (fun z => hb (by rw [z]; exact List.mem_cons_self))]
              exact h
            walk_at "ev"
            rw [e28]
            refine ⟨_, _, _, vs0, us1 ++ [a27], rfl, z28.sub (.cons _ (.cons _ (.cons _ (.cons _ (List.Sublist.refl _))))) (by simp), t027.frx gD1 (f28 _), ?_⟩
            have t3 := t127.frx gD1 (f28 _)
            have e3 : ((sidesUp i2 m).filter (idB d)).map sideV ++ [[V.int ((i2 + 1 : Nat) : Int), V.str (sdS up)]] = ((sidesUp i2 (m + 1)).filter (idB d)).map sideV := by
              rw [eside, filt_snoc, if_pos (idB_t idl), List.map_append]
              rfl
            rw [e3] at t3
            exact t3
          · have idl : ¬ IDL d (i2 + 1) up := fun z => c (id2.mpr z)
            walk_at "ev"
            refine ⟨_, _, _, vs0, us1, rfl, z26.sub (.cons _ (.cons _ (.cons _ (List.Sublist.refl _)))) (by simp), t026, ?_⟩
            rw [eside, filt_snoc, if_neg (by rw [idB_f idl]; exact Bool.false_ne_true), List.append_nil]
            exact t126
        · obtain ⟨u8, u9, u10, us0, us1, rfl, z12, t0, t1⟩ := pv
          have e2 : sidesUp (i2 + 1) 0 = sidesUp i2 [V.str "high", V.str "low"].length := sidesUp_next i2
          exact ⟨_, _, _, _, _, us0, us1, rfl, z12.sub (.cons _ (List.Sublist.refl _)) (by simp), by rw [e2]; exact t0, by rw [e2]; exact t1⟩
      · obtain ⟨u7, u8, u9, u10, u11, us0, us1, rfl, z10, t0, t1⟩ := pv
        have e0 : sidesUp (d.L.length - 1) 0 = sidesTo (d.L.length - 1) := by unfold sidesUp; rw [List.take_zero, List.append_nil]
        rw [e0] at t0 t1
        clear z7 z8 z9 h09 h19
        have f10 := z10.fr0 (by simp)
        have pd10 := pd6.mono f10
        have stl := sidesTo_len (d.L.length - 1)
        have fl : (freeL d).length ≤ 10000 := by
          have := List.length_filter_le (nbB d) (sidesTo (d.L.length - 1))
          show ((sidesTo (d.L.length - 1)).filter (nbB d)).length ≤ _
          omega
        have sl : (stillL d).length ≤ 10000 := by
          have := List.length_filter_le (idB d) (sidesTo (d.L.length - 1))
          show ((sidesTo (d.L.length - 1)).filter (idB d)).length ≤ _
          omega
        have t0 : TL H10 us0 ((freeL d).map sideV) := t0
        have t1 : TL H10 us1 ((stillL d).map sideV) := t1
        walk_at "ev"
        refine ⟨p, d, rfl, pd10, ok, has, bd, fun F0 vs0 H11 hF0 f11 g11 v0 => ?_⟩
        have z11 := z10.comp f11 hF0 g11
        have pd11 := pd10.mono f11
        walk_at "ev"
        refine ⟨rfl, p, d, rfl, pd11, ok, has, bd, fun F1 vs1 H12 hF1 f12 g12 v1 => ?_⟩
        have z12 := z11.comp f12 hF1 g12
        have pd12 := pd11.mono f12
        walk_at "ev"
        intro a13 k13
        have z13 := z12.alloc (.lst [.ref F0, .ref F1]) k13
        walk_at "ev"
        intro a14 k14
        have z14 := z13.alloc (.lst [.ref D0, .ref D1]) k14
        have f1214 : Fr [] H12 (upd (upd H12 a13 (.lst [.ref F0, .ref F1])) a14 (.lst [.ref D0, .ref D1])) := ((Fr.refl _).new k13).new k14
        have f1114 := f12.trans f1214
        have f1014 := f11.trans f1114
        have v014 := v0.fr0 f1114
        have v114 := v1.fr0 f1214
        have t014 := t0.fr0 f1014
        have t114 := t1.fr0 f1014
        refine ak_two (K := K) (z14.get (.tail _ (.head _))) (z14.get (.head _)) (z14.get (.tail _ (.tail _ (.tail _ (.head _))))) (z14.get (.tail _ (.tail _ (.head _)))) (z14.get (.tail _ (.tail _ (.tail _ (.tail _ (.tail _ (.tail _ (.head _)))))))) (z14.get (.tail _ (.tail _ (.tail _ (.tail _ (.tail _ (.head _))))))) v014 v114 t014 t114 fl sl fun H15 f15 => ?_
        have z15 := z14.same f15
        have f1015 := f1014.trans f15
        have pd15 := pd10.mono f1015
        have t015 := t014.fr0 f15
        have t115 := t114.fr0 f15
        have vl0 : vs0.length ≤ 10000 := by
          have := v0.1
          rw [List.length_map] at this
          omega
        have vl1 : vs1.length ≤ 10000 := by
          have := v1.1
          rw [List.length_map] at this
          omega
        walk_at "ev"
        have z16 := z15.set 3 (.lst (vs0.map V.ref ++ [.non])) rfl (.inr rfl)
        have fx : ∀ (G : Hp) (c : Addr) (o : HO), Fr [c] G (upd G c o) := fun G c o b u hb h => by
          rw [upd_ne (fun z => hb (by rw [z]; exact List.mem_cons_self))]
          exact h
        have t016 := t015.frx (z15.get (.tail _ (.tail _ (.tail _ (.head _))))) (fx H15 F0 (.lst (vs0.map V.ref ++ [.non])))
        have t116 := t115.frx (z15.get (.tail _ (.tail _ (.tail _ (.head _))))) (fx H15 F0 (.lst (vs0.map V.ref ++ [.non])))
        walk_at "ev"
        have z17 := z16.set 2 (.lst (vs1.map V.ref ++ [.non])) rfl (.inr rfl)
        have t017 := t016.frx (z16.get (.tail _ (.tail _ (.head _)))) (fx _ F1 (.lst (vs1.map V.ref ++ [.non])))
        have t117 := t116.frx (z16.get (.tail _ (.tail _ (.head _)))) (fx _ F1 (.lst (vs1.map V.ref ++ [.non])))
        have zz := z17.sub (E' := [(2, td, .tup [.ref D0, .ref D1]), (2, D1, .lst (us1.map V.ref)), (2, D0, .lst (us0.map V.ref))]) (.cons _ (.cons _ (.cons _ (.cons _ (List.Sublist.refl _))))) (by simp)
        have f617 := zz.fr0 (by simp)
        have pd17 := pd6.mono f617
        clear z10 z11 z12 z13 z14 z15 z16 z17 v0 v1 v014 v114 t0 t1 t014 t114 t015 t115 t016 t116 f10 f11 f12 f1214 f1114 f1014 f15 f1015 pd10 pd11 pd12 pd15 k13 k14 hF0 hF1 g11 g12 vl0 vl1
        walk_at "ev"
        refine ⟨rfl, p, d, rfl, pd17, ok, has, bd, fun F2 vs2 H18 hF2 f18 g18 v2 => ?_⟩
        have z18 := zz.comp f18 hF2 g18
        have pd18 := pd17.mono f18
        walk_at "ev"
        refine ⟨p, d, rfl, pd18, ok, has, bd, fun F3 vs3 H19 hF3 f19 g19 v3 => ?_⟩
        have z19 := z18.comp f19 hF3 g19
        have pd19 := pd18.mono f19
        walk_at "ev"
        intro a20 k20
        have z20 := z19.alloc (.lst [.ref F2, .ref F3]) k20
        walk_at "ev"
        intro a21 k21
        have z21 := z20.alloc (.lst [.ref D0, .ref D1]) k21
        have f1921 : Fr [] H19 (upd (upd H19 a20 (.lst [.ref F2, .ref F3])) a21 (.lst [.ref D0, .ref D1])) := ((Fr.refl _).new k20).new k21
        have f1821 := f19.trans f1921
        have f1721 := f18.trans f1821
        refine ak_two (K := K) (z21.get (.tail _ (.head _))) (z21.get (.head _)) (z21.get (.tail _ (.tail _ (.tail _ (.head _))))) (z21.get (.tail _ (.tail _ (.head _)))) (z21.get (.tail _ (.tail _ (.tail _ (.tail _ (.tail _ (.tail _ (.head _)))))))) (z21.get (.tail _ (.tail _ (.tail _ (.tail _ (.tail _ (.head _))))))) (v2.fr0 f1821) (v3.fr0 f1921) (t017.fr0 f1721) (t117.fr0 f1721) fl sl fun H22 f22 => ?_
        have f622 := (f617.trans f1721).trans f22
        have ra22 := ra6.mono f622
        have pd22 := pd6.mono f622
        walk_at "ev"
        refine ⟨t, d, rfl, ra22, ok, fun p23 H23 f23 n23 => ?_⟩
        refine r_neP (pd22.mono f23) n23.at ?_
        rw [decide_eq_true rfl]
        walk_at "ev"
        exact ⟨_, _, _, _, _, _, _, _, _, _, rfl, (J6.fr (f622.trans f23)).le (by omega)⟩
    · obtain ⟨u2, u3, u4, u5, u6, u7, u8, u9, u10, u11, rfl, J2⟩ := pv
      walk_at "ev"
      intro m1 km1
      have z1 := (Z.start0 H2).alloc (.lst [.int 2, .int 2, .int 9, .int 10]) km1
      walk_at "ev"
      intro m2 km2
      have z2 := z1.alloc (.lst [.int 6, .int 6, .int 13, .int 10]) km2
      walk_at "ev"
      intro o3 ko3
      have z3 := z2.alloc (.lst [.int 0]) ko3
      walk_at "ev"
      refine ⟨o3, 4, _, rfl, rfl, z3.get (.head _), by decide, by decide, by decide, fun m3 km3 => ?_⟩
      have z4 := z3.alloc (.lst [.int 0, .int 0, .int 0, .int 0]) km3
      walk_at "ev"
      intro o5 ko5
      have z5 := z4.alloc (.lst [.int 9]) ko5
      walk_at "ev"
      refine ⟨o5, 4, _, rfl, rfl, z5.get (.head _), by decide, by decide, by decide, fun m4 km4 => ?_⟩
      have z6 := z5.alloc (.lst [.int 9, .int 9, .int 9, .int 9]) km4
      walk_at "ev"
      refine r_planA (d := pF) pF_ok (z6.get (.tail _ (.tail _ (.tail _ (.tail _ (.tail _ (.head _))))))) (z6.get (.tail _ (.tail _ (.tail _ (.tail _ (.head _)))))) (z6.get (.tail _ (.tail _ (.head _)))) (z6.get (.head _)) fun p H7 f7 n7 => ?_
      have pd7 := n7.at
      clear z1 z2 z3 z4 z5 z6 km1 km2 ko3 km3 ko5 km4
      walk_at "ev"
      refine ⟨p, pF, 1, false, rfl, pd7, pF_ok, pF_has, pF_bd, ⟨by decide, by decide⟩, fun r1 H8 f8 g8 => ?_⟩
      have e1 : r1 = 1 := (room_F g8 (by decide)).trans (by decide)
      subst e1
      walk_at "ev"
      refine ⟨p, pF, 1, true, rfl, pd7.mono f8, pF_ok, pF_has, pF_bd, ⟨by decide, by decide⟩, fun r2 H9 f9 g9 => ?_⟩
      have e2 : r2 = 3 := (room_F g9 (by decide)).trans (by decide)
      subst e2
      have f79 := f8.trans f9
      walk_at "ev"
      refine ⟨p, pF, 2, true, rfl, pd7.mono f79, pF_ok, pF_has, pF_bd, ⟨by decide, by decide⟩, fun r3 H10 f10 g10 => ?_⟩
      have e3 : r3 = 0 := (room_F g10 (by decide)).trans (by decide)
      subst e3
      have f710 := f79.trans f10
      walk_at "ev"
      intro q ktd
      have z11 := (Z.start0 H10).alloc (.lst [.int 1, .int 3, .int 0]) ktd
      have pd11 := (pd7.mono f710).mono (z11.fr0 (by simp))
      walk_at "ev"
      refine ⟨rfl, p, pF, 3, false, rfl, pd11, pF_ok, pF_has, pF_bd, ⟨by decide, by decide⟩, fun r4 H12 f12 g12 => ?_⟩
      have e4 : r4 = 0 := (room_F g12 (by decide)).trans (by decide)
      subst e4
      have z12 := z11.same f12
      walk_at "ev"
      have z13 := z12.set 0 (.lst [.int 1, .int 3, .int 0, .int 0]) rfl (.inr rfl)
      have pd13 := (pd7.mono f710).mono (z13.fr0 (by simp))
      walk_at "ev"
      refine ⟨p, pF, rfl, pd13, pF_ok, pF_has, pF_bd, fun F ts H14 hF f14 g14 tl => ?_⟩
      rw [free_F] at tl
      have z14 := z13.comp f14 hF g14
      walk_at "ev"
      have z15 := z14.set 1 (.lst [.int 1, .int 3, .int 0, .int 0, .ref F]) rfl (.inr rfl)
      have t15 := tl.frx (z14.get (.tail _ (.head _))) (fun b o hb h => by rw [upd_ne (fun z => hb (by rw [z]; exact List.mem_cons_self))]; exact h : Fr [q] H14 (upd H14 q (.lst [.int 1, .int 3, .int 0, .int 0, .ref F])))
      intro c1 kc1
      have z16 := z15.alloc (.tup [.int 1, .str "high"]) kc1
      walk_at "ev"
      intro c2 kc2
      have z17 := z16.alloc (.tup [.int 1, .str "low"]) kc2
      walk_at "ev"
      intro c3 kc3
      have z18 := z17.alloc (.tup [.int 2, .str "high"]) kc3
      walk_at "ev"
      intro c4 kc4
      have z19 := z18.alloc (.tup [.int 2, .str "low"]) kc4
      walk_at "ev"
      intro c5 kc5
      have z20 := z19.alloc (.tup [.int 3, .str "high"]) kc5
      walk_at "ev"
      intro c6 kc6
      have z21 := z20.alloc (.lst [.ref c1, .ref c2, .ref c3, .ref c4, .ref c5]) kc6
      walk_at "ev"
      intro c7 kc7
      have z22 := z21.alloc (.lst [.int 1, .int 3, .int 0, .int 0, .ref c6]) kc7
      have t22 := ((((((t15.more (o := .tup [.int 1, .str "high"]) kc1).more (o := .tup [.int 1, .str "low"]) kc2).more (o := .tup [.int 2, .str "high"]) kc3).more (o := .tup [.int 2, .str "low"]) kc4).more (o := .tup [.int 3, .str "high"]) kc5).more (o := .lst [.ref c1, .ref c2, .ref c3, .ref c4, .ref c5]) kc6).more (o := .lst [.int 1, .int 3, .int 0, .int 0, .ref c6]) kc7
      have dt : ∀ (c : Addr) (H : Hp) (n : Nat) (b : Bool), H c = some (.tup [.int (n : Nat), .str (sdS b)]) → OAt H (.ref c) (sideO (n, b)) := fun c H n b h => .tup h (.cons (.int _) (.cons (.str _) .nil))
      refine ⟨.ref q, .ref c7, .lst [.int 1, .int 3, .int 0, .int 0, .lst ([(1, true), (1, false), (2, true), (2, false), (3, true)].map sideO)], rfl,
        .lst (z22.get (.tail _ (.tail _ (.tail _ (.tail _ (.tail _ (.tail _ (.tail _ (.tail _ (.head _)))))))))) (.cons (.int _) (.cons (.int _) (.cons (.int _) (.cons (.int _) (.cons (.lst (z22.get (.tail _ (.tail _ (.tail _ (.tail _ (.tail _ (.tail _ (.tail _ (.head _))))))))) t22.oall) .nil))))),
        .lst (z22.get (.head _)) (.cons (.int _) (.cons (.int _) (.cons (.int _) (.cons (.int _) (.cons (.lst (z22.get (.tail _ (.head _))) (.cons (dt c1 _ 1 true (z22.get (.tail _ (.tail _ (.tail _ (.tail _ (.tail _ (.tail _ (.head _))))))))) (.cons (dt c2 _ 1 false (z22.get (.tail _ (.tail _ (.tail _ (.tail _ (.tail _ (.head _)))))))) (.cons (dt c3 _ 2 true (z22.get (.tail _ (.tail _ (.tail _ (.tail _ (.head _))))))) (.cons (dt c4 _ 2 false (z22.get (.tail _ (.tail _ (.tail _ (.head _)))))) (.cons (dt c5 _ 3 true (z22.get (.tail _ (.tail _ (.head _))))) .nil)))))) .nil))))),
        .lst (by show 5 ≤ 10000; omega) (fun d hd => ?_), fun H' _ => k H'⟩
      rcases List.mem_cons.mp hd with rfl | hd
      · exact .int _
      rcases List.mem_cons.mp hd with rfl | hd
      · exact .int _
      rcases List.mem_cons.mp hd with rfl | hd
      · exact .int _
      rcases List.mem_cons.mp hd with rfl | hd
      · exact .int _
      rw [List.mem_singleton.mp hd]
      exact ak_sides _ (by show 5 ≤ 10000; omega)
end
set_option Elab.async false
set_option linter.all false
set_option maxRecDepth 100000
set_option maxHeartbeats 0
theorem law_facts {P : Program} {w : World} {K : PySem.W.Frag} {h : Heap} {mg : Str → Option Value} {f : Addr} (X : K.In h) (G : h.Ns mainGlobals mg) (hfa : mg ("law" : Str) = some (.ref f)) (c : SaysM fa fn K) :
    ∃ fd : FuncData, (∀ (s : Shared) (v : Value), BindsTo s fd ⟨[v], []⟩ [("script", v)]) ∧ ∀ base : Heap, K.In base → base.Ns mainGlobals mg → FnOk P w K mg base CX0 12 f fd ["script"] (sp_law K) := by
  obtain ⟨f0, fd0, F0, g0, _, b0, fu0⟩ := (k_law (P := P) (w := w) (⟨c, X, G⟩ : Tx fa fn K mg h)).ex
  obtain rfl : f0 = f := by
    have e := g0.symm.trans hfa
    cases e
    rfl
  have b := FunD.bindsA (ps := ["script"]) fu0 fun _ _ _ _ _ _ us hl => match us, hl with | [_], _ => rfl
  refine ⟨fd0, fun s v => b s [v] rfl, fun bs hX hG => ?_⟩
  obtain ⟨f1, fd1, F1, g1, _, _, fu1⟩ := (k_law (P := P) (w := w) (⟨c, hX, hG⟩ : Tx fa fn K mg bs)).ex
  obtain rfl : f1 = f0 := by
    have e := g1.symm.trans hfa
    cases e
    rfl
  obtain ⟨_, _, _, _, _, _, _, _, _, _, _, lk0, _⟩ := fu0.ex
  obtain ⟨_, _, _, _, _, _, _, _, _, _, _, lk1, _⟩ := fu1.ex
  obtain rfl : fd1 = fd0 := by
    have e := lk1.symm.trans lk0
    cases e
    rfl
  exact F1
end Ev
open PySem PySem.W PySem.Calls PyProof.Rows
theorem PySem.Challenge.cw_evenbits_k44_room_and_needless_bounds_by_holds : PySem.Challenge.rw_evenbits_k44_room_and_needless_bounds_by.Holds := by
  w_on; o_law
  refine HandSHeadRun.head_any (r := OpenLaw.row PySem.Challenge.rw_evenbits_k44_room_and_needless_bounds_by) (q := view (OpenLaw.row PySem.Challenge.rw_evenbits_k44_room_and_needless_bounds_by).prog [62]) (H := Ev.hk) (ob := Ev.ob) (M := 9000)
    (loose := ("_wall" :: "__name__" :: "MOST_TIMES" :: "is_whole" :: "is_between" :: "is_whole_list" :: "is_at_most" :: "sums_from_zero" :: "runs_of" :: "entry_at" :: "EvenError" :: "InvalidPlan" :: "InvalidRow" :: "InvalidTime" :: "InvalidSide" :: "InvalidNumber" :: "NoRow" :: "Plan" :: "check_bound" :: "is_row" :: "sums_of" :: "has_row" :: "conflict" :: "fullest" :: "emptiest" :: "sum_ranges" :: "check_rows" :: "entries_of" :: "_begun_sums" :: "best_row" :: "latest_row" :: "best_entries" :: "plan_of_best" :: "levels_of" :: "_even_rate" :: "_inside_part" :: "room_of" :: "needless" :: "idle" :: "moved_bound" :: "_room_within" :: "_inner_bounds" :: "_law_bag" :: "_law_stirred" :: "_law_draw" :: "_law_alike" :: "_law_box" :: "_law_plan" :: "_law_sums" :: "_law_all" :: "_law_squares" :: "_law_best" :: "_law_top" :: "_law_moved" :: "_law_loose" :: "_law_room_right" :: ([] : List PySem.Str))) (d := HandSHeadRun.topDef (OpenLaw.row PySem.Challenge.rw_evenbits_k44_room_and_needless_bounds_by).prog 62) (kwd := []) Ev.ob_eq
    (by kernel_rfl) (fun s => by kernel_rfl) Ev.run (by kernel_rfl) (by kernel_rfl) (by kernel_rfl) (by rfl) (by first | assumption | decide +kernel) (by decide +kernel) ⟨rfl, rfl, rfl, rfl, rfl, by decide +kernel⟩ ?hw ?hc
  case hw => w_witness2
  case hc =>
    refine L2.walk_ofE (l := PySem.Challenge.rw_evenbits_k44_room_and_needless_bounds_by) (n := 63) (k := 12) (x := "script") (CX := L2.CX0) rfl (by decide) (by kernel_rfl) ⟨rfl, by decide, by decide⟩ ?F (fun _ _ _ _ z => z)
    intro w mg fa h Y G hmg0
    obtain ⟨K, KX, c⟩ := Y
    have hmg : mg ("law" : PySem.Str) = some (.ref fa) := by
      have e : (HandSHeadRun.topDef (OpenLaw.row PySem.Challenge.rw_evenbits_k44_room_and_needless_bounds_by).prog 62).name = ("law" : PySem.Str) := by kernel_rfl
      rw [← e]
      exact hmg0
    obtain ⟨fd, hb, hF⟩ := Ev.law_facts (P := (PySem.Challenge.rw_evenbits_k44_room_and_needless_bounds_by).prog) (w := w) KX G hmg c
    exact ⟨K, fd, Ev.sp_law K, KX, hb, fun H a ns hl _ hS => ⟨a, ns, rfl, hS, hl, fun _ => rfl⟩, hF⟩
