import PyProof.Rows.All
import Wide.All
import OpenK.AllK
import Wide.FinOn
import PyProof.ReprRoads
import HandS.ForMost
import HandS.Wide
import PyProof.StrLawsRepr
import PyProof.ReprLen
import HandS.TupAny
import HandS.Gcd
import HandS.More
import HandS.IsInst
import HandS.Style
import HandS.Defaults
import Flt.RightSqrt
import HandS.Codes
import HandS.WideBits
import KE.BitLaws
import HandS.TryOnly
import PySem.Challenge.RW_pointsum_k55_whole_new_out_of_old
set_option Elab.async false
set_option linter.all false
set_option maxRecDepth 100000
/-! Promises that know that no repr is under way around the call; repr of plain data. -/
namespace Gd
open PySem PySem.Spec PyProof.Rows L2
/-- as the layer's FnOk, for calls around which nothing is being shown -/
structure FnG (P : Program) (w : World) (K : PySem.W.Frag) (mg : Str → Option Value) (base : Heap) (k : Nat) (f : Addr) (fd : FuncData) (ps : List Str) (sp : Sp) : Prop where
  many : ∀ vs H Q E, sp vs H Q E → vs.length = ps.length
  goes : ∀ (A : Around) (outer : List Env) (s : Shared) (H : Hp) (args : Args) (us : List Value) (vs : List V) (Q : VK) (E : XK), A.guards = some [] → Room k A → Env0 P w K mg base A outer s H →
    BindsTo s fd args (ps.zip us) → Vals vs us → sp vs H Q E → codeAny (model P w) A (.call (.ref f) args) (CR CX0 outer P w H s Q E) s
section
variable {P : Program} {w : World} {K : PySem.W.Frag} {mg : Str → Option Value} {base : Heap}
theorem FnG.of {k : Nat} {f : Addr} {fd : FuncData} {ps : List Str} {sp : Sp} (F : FnOk P w K mg base CX0 k f fd ps sp) : FnG P w K mg base k f fd ps sp :=
  ⟨F.len, fun A outer s H args us vs Q E _ => F.run A outer s H args us vs Q E⟩
theorem FnG.up {j k : Nat} {f : Addr} {fd : FuncData} {ps : List Str} {sp : Sp} (F : FnG P w K mg base j f fd ps sp) (h : j ≤ k) : FnG P w K mg base k f fd ps sp :=
  ⟨F.many, fun A outer s H args us vs Q E hg hr => F.goes A outer s H args us vs Q E hg (hr.mono h)⟩
/-- a def by its body -/
theorem FnG.by_body {x qual : Str} {st : Stmt} {f : Addr} {fd : FuncData} {N ps : List Str} {k : Nat} {sp : Sp} (F : Fun K x qual st f fd) (S : FnScope N ps (defScope st)) (len : ∀ vs H Q E, sp vs H Q E → vs.length = ps.length)
    (hb : ∀ (cdv : Value) (A : Around) (outer : List Env) (s : Shared) (H : Hp) (vs : List V) (Q : VK) (E : XK), A.guards = some [] → Room k (A.deeper (envOfC qual (defScope st) s.heap.objs.size f cdv)) → sp vs H Q E →
      ∃ t, PSs (cxOf CX0 P w K mg base N qual (defScope st) f cdv A outer s H E).nox (defBody st) t ∧ t { nx := fun _ H' => Q .non H', rt := Q } (start N vs) H) : FnG P w K mg base (k + 1) f fd ps sp := by
  obtain ⟨oc, od, kV, doc, pm, an, cdv, ct, osl, rfl, lk, hcd⟩ := F.ex
  constructor
  · exact len
  · intro A outer s H args us vs Q E hg hr e0 hbi rv hsp
    have hlen := len _ _ _ _ hsp
    have lim : s.heap.NoLimit := e0.mod.nolimit.keeps fun b o e => (e0.bs b o e).1
    have inK : K.In s.heap := e0.mod.kin.keeps fun b o e => (e0.bs b o e).1
    have kinds : ∀ y ∈ ps.zip us, (defScope st).names.lookup y.1 = some .local ∨ ((defScope st).names.lookup y.1 = some .cell ∧ ((cellsFrom (s.heap.objs.size + 1) (defScope st).names []).lookup y.1).isSome = true) := by
      rintro ⟨n, v⟩ hy
      have hp := S.par n (List.of_mem_zip hy).1
      cases hp with
      | inl q => exact Or.inl q
      | inr q => exact Or.inr ⟨q, PySem.W.cellsFrom_some _ _ _ (Or.inl q)⟩
    refine codeAny_call_function hr.depth (inK _ _ lk) rfl S.co S.gen rfl (PySem.W.codeRec_of inK hcd) (hbi _ _ _ _ ?_)
    refine wpAny_newFunctionEnv_cells S.kind kinds fun env he s1 x1 => ?_
    subst he
    refine ⟨lim.keeps x1.toInCall.keep, codeAny_func ?_⟩
    obtain ⟨t, ht, hq⟩ := hb cdv A outer s H vs Q E hg (hr.deeper _) hsp
    have I0 : Inv (cxOf CX0 P w K mg base N qual (defScope st) f cdv A outer s H E) [] (start N vs) H s1 := inv_start S hr.hd e0 hlen rv x1
    refine wpAny_mono (ht.nox.run [] s1 (start N vs) H _ I0 hq) (fun fl s' hs => ?_) fun e s' hs => hs
    match fl, hs with
    | .ret u, ⟨v, σ', H', J, r1, q1⟩ => exact ⟨v, H', J.os, J.bare, J.base, J.hok, r1, q1⟩
    | .next, ⟨σ', H', J, q1⟩ => exact ⟨V.non, H', J.os, J.bare, J.base, J.hok, rfl, q1⟩
    | .brk, ⟨_, _, _, q1⟩ => exact q1.elim
    | .cont, ⟨_, _, _, q1⟩ => exact q1.elim
end
/-- f(e, ..) where every parameter is given -/
def tKal (sp : Sp) (t : TA) : TE := fun σ H Q => t σ H fun vs H1 => sp vs H1 Q E0
/-- a def that may be called by its name -/
structure Kl (P : Program) (w : World) (K : PySem.W.Frag) (mg : Str → Option Value) (base : Heap) (k : Nat) (x : Str) (sp : Sp) : Prop where
  ex : ∃ (f : Addr) (fd : FuncData) (ps : List Str), FnOk P w K mg base CX0 k f fd ps sp ∧ mg x = some (.ref f) ∧ PySem.W.keepIn K (.ref f) = true ∧ Binds K fd ps []
structure Kg (P : Program) (w : World) (K : PySem.W.Frag) (mg : Str → Option Value) (base : Heap) (k : Nat) (x : Str) (sp : Sp) : Prop where
  ex : ∃ (f : Addr) (fd : FuncData) (ps : List Str), FnG P w K mg base k f fd ps sp ∧ mg x = some (.ref f) ∧ PySem.W.keepIn K (.ref f) = true ∧ Binds K fd ps []
section
variable {X : Cx} {j k : Nat} {f : Addr} {fd : FuncData} {ps : List Str} {sp : Sp} {x : Str} {p pos : Pos} {e : Expr} {es : List Expr} {t : TA}
theorem run_g {pins : List (Addr × Obj)} {σ : L2.St} {H : Hp} {s : Shared} {Q : VK} {us : List Value} {vs : List V} (F : FnG X.prog X.w X.K X.mg X.base k f fd ps sp) (hg : X.A.guards = some []) (hr : Room k X.A) (hb : Binds X.K fd ps [])
    (I : Inv X pins σ H s) (r : Vals vs us) (h : sp vs H Q E0) : wpAny (model X.prog X.w) X.A (call (.ref f) us) (EP X pins σ Q) X.xe s := by
  have hl : us.length = ps.length := r.length.symm.trans (F.many _ _ _ _ h)
  have hbb := hb s us I.kIn (by rw [List.append_nil]; exact hl)
  rw [List.append_nil] at hbb
  refine wpAny_call (codeAny_mono (F.goes X.A X.stack s H ⟨us, []⟩ us vs Q E0 hg hr I.env0 hbb r h) fun res s' hq => ?_)
  match res, hq with
  | .ok (.ret u), hq => exact I.after hq
  | .error e, hq => exact (show False from hq).elim
theorem pe_g (c : Kg X.prog X.w X.K X.mg X.base k x sp) (hgd : X.A.guards = some []) (hr : Room j X.A) (hk : k ≤ j) (hg : Gl X x) (ha : PA X (e :: es) t)
    (hdb : (x == ("__debug__" : Str)) = false := by decide) (he : starEach (e :: es) X.env = (false, eval e X.env) :: starEach es X.env := by rfl) (hpl : (backTo pos (starEach es X.env)).any (·.1) = false := by rfl) :
    PE X (.Call (.Name x p) (e :: es) [] pos) (tKal sp t) := by
  obtain ⟨f, fd, ps, F, hm, kp, b⟩ := c.ex
  constructor
  intro pins s σ H Q I h
  refine wpAny_Call_Name_kw (ld_glob I hg hm ?_ hdb)
  refine PySem.W.callWith_K (h₀ := X.base) I.ok.mod.kin kp (thn (ha.run pos pins s σ H _ I h) fun us s1 ⟨vs, H1, I1, r, q⟩ => ⟨I1.kIn, ?_⟩) he hpl
  exact run_g F hgd (hr.mono hk) b I1 r q
theorem pe_k (c : Kl X.prog X.w X.K X.mg X.base k x sp) (hr : Room j X.A) (hk : k ≤ j) (hg : Gl X x) (ha : PA X (e :: es) t)
    (hdb : (x == ("__debug__" : Str)) = false := by decide) (he : starEach (e :: es) X.env = (false, eval e X.env) :: starEach es X.env := by rfl) (hpl : (backTo pos (starEach es X.env)).any (·.1) = false := by rfl) :
    PE X (.Call (.Name x p) (e :: es) [] pos) (tKal sp t) := by
  obtain ⟨f, fd, ps, F, hm, kp, b⟩ := c.ex
  have h := pe_call (sp := sp) (E := E0) (dvs := []) F (hr.mono hk) hg hm kp b .nil pass0 ha hdb he hpl (pos := pos) (p := p)
  constructor
  intro pins s σ H Q I q
  refine h.run pins s σ H Q I ?_
  have e2 : tCall sp [] E0 t = tKal sp t := by
    funext σ H Q
    show t σ H (fun vs H1 => sp (vs ++ []) H1 Q E0) = t σ H (fun vs H1 => sp vs H1 Q E0)
    congr 1
    funext vs H1
    rw [List.append_nil]
  rw [e2]
  exact q
end
/-! ### repr of plain data -/
mutual
/-- at most so many signs -/
def wt : PyData → Nat
  | .none | .bool _ => 5
  | .int _ => 1921
  | .str x => 10 * x.length + 2
  | .list xs | .tuple xs => wtAll xs + 3
  | .dict _ => 0
def wtAll : List PyData → Nat
  | [] => 0
  | x :: xs => wt x + 2 + wtAll xs
end
mutual
/-- data that can be shown: its ints below 1920 bits -/
def okD : PyData → Bool
  | .none | .bool _ => true
  | .int i => decide (i.natAbs.log2 < 1920)
  | .str x => x.cps.toList.all fun c => decide (c < 16 ^ 8)
  | .list xs | .tuple xs => okAll xs
  | .dict _ => false
def okAll : List PyData → Bool
  | [] => true
  | x :: xs => okD x && okAll xs
end
theorem one_br : (("[" : Str)).length = 1 := rfl
theorem one_br2 : (("]" : Str)).length = 1 := rfl
theorem one_pa : (("(" : Str)).length = 1 := rfl
theorem tup_wt (ts : List Str) : (tupleText ts).length ≤ piled ts + 3 := by
  have e3 : (((if ts.length == 1 then ",)" else ")" : String) : Str)).length ≤ 2 := by split <;> decide +kernel
  unfold tupleText
  rw [strLen_append, strLen_append, one_pa]
  cases ts with
  | nil =>
    have : (Str.join ", " []).length = 0 := by decide +kernel
    omega
  | cons x r =>
    have := join_length_add (x :: r) (List.cons_ne_nil _ _)
    omega
theorem sum_piled : ∀ ts : List Str, (ts.map (·.length)).sum + 2 * ts.length = piled ts
  | [] => rfl
  | t :: ts => by
    have ih := sum_piled ts
    rw [piled_cons, ← ih, List.map_cons, List.sum_cons, List.length_cons]
    omega
theorem lst_wt (ts : List Str) : (listText ts).length ≤ piled ts + 3 := by
  have h := textFrom_len_le ts 0 "["
  have h2 := sum_piled ts
  unfold listText
  rw [strLen_append, one_br2]
  rw [one_br] at h
  omega
mutual
theorem shown_wt : ∀ d : PyData, okD d = true → d.shown.length ≤ wt d ∧ d.showable = true ∧ d.hasDict = false
  | .none, _ => by
    refine ⟨?_, rfl, rfl⟩
    show (("None" : Str)).length ≤ 5
    decide +kernel
  | .bool b, _ => by
    refine ⟨?_, rfl, rfl⟩
    cases b <;> (show _ ≤ 5; decide +kernel)
  | .int i, h => by
    have h1 : i.natAbs.log2 < 1920 := of_decide_eq_true (by simpa only [okD] using h)
    refine ⟨?_, by simpa only [PyData.showable] using decide_eq_true h1, rfl⟩
    have e := int_text_length_le (k := 1920) (by decide) h1
    show (Str.ofString (toString i)).length ≤ 1921
    rw [PySem.ofString_length]
    exact e
  | .str x, h => by
    refine ⟨?_, rfl, rfl⟩
    have h1 : ∀ c ∈ x.cps.toList, c < 16 ^ 8 := fun c hc => of_decide_eq_true (List.all_eq_true.mp (by simpa only [okD] using h) c hc)
    exact StrLaws.reprText_len x h1
  | .list xs, h => by
    obtain ⟨h1, h2, h3⟩ := shown_wtAll xs (by simpa only [okD] using h)
    refine ⟨?_, by simpa only [PyData.showable] using h2, by simpa only [PyData.hasDict] using h3⟩
    simp only [PyData.shown, wt]
    exact Nat.le_trans (lst_wt _) (Nat.add_le_add_right h1 3)
  | .tuple xs, h => by
    obtain ⟨h1, h2, h3⟩ := shown_wtAll xs (by simpa only [okD] using h)
    refine ⟨?_, by simpa only [PyData.showable] using h2, by simpa only [PyData.hasDict] using h3⟩
    simp only [PyData.shown, wt]
    exact Nat.le_trans (tup_wt _) (Nat.add_le_add_right h1 3)
  | .dict _, h => by simp only [okD, Bool.false_eq_true] at h
theorem shown_wtAll : ∀ xs : List PyData, okAll xs = true → piled (PyData.shownAll xs) ≤ wtAll xs ∧ PyData.showableAll xs = true ∧ PyData.hasDictAll xs = false
  | [], _ => ⟨Nat.le_refl _, rfl, rfl⟩
  | x :: xs, h => by
    have h0 : (okD x && okAll xs) = true := by simpa only [okAll] using h
    rw [Bool.and_eq_true] at h0
    obtain ⟨a1, a2, a3⟩ := shown_wt x h0.1
    obtain ⟨b1, b2, b3⟩ := shown_wtAll xs h0.2
    refine ⟨?_, by simp only [PyData.showableAll, a2, b2, Bool.and_self], by simp only [PyData.hasDictAll, a3, b3, Bool.or_self]⟩
    simp only [PyData.shownAll, wtAll]
    rw [piled_cons]
    omega
end
/-- the text of data -/
def rRepr (K : PySem.W.Frag) : List V → Hp → VK → Prop := fun xs H Q => ∃ x d, xs = [x] ∧ Dp K H x d ∧ okD d = true ∧ d.depth ≤ 40 ∧ wt d ≤ 1000000 ∧ Q (.str d.shown) H
section
variable {X : Cx}
theorem call_reprD (hg : X.A.guards = some []) (hu : X.A.units + 64 < cLine) : CallR X (.builtin "repr") (rRepr X.K) := by
  intro pins s σ H xs us Q I r h
  obtain ⟨x, d, rfl, hd, h0, h3, hw, q⟩ := h
  obtain ⟨hz, h1, h2⟩ := shown_wt d h0
  have h4 : d.shown.length ≤ sizeLine := Nat.le_trans hz (Nat.le_trans hw (by decide))
  obtain ⟨u, rfl, hx⟩ := vals1 r
  obtain ⟨as, rd⟩ := Dp.reads I d x u hd hx
  cases hd with
  | non =>
    obtain rfl : u = Value.none := hx
    exact PySem.P.repr_of_none ⟨.str _, H, I.tok _, ⟨_, rfl⟩, q⟩
  | bl b =>
    obtain rfl : u = Value.bool b := hx
    exact PySem.P.repr_of_bool ⟨.str _, H, I.tok _, ⟨_, rfl⟩, q⟩
  | int i =>
    obtain ⟨t, rfl⟩ := hx
    exact PySem.P.repr_of_int (of_decide_eq_true h1) ⟨.str _, H, I.tok _, ⟨_, rfl⟩, q⟩
  | str z =>
    obtain ⟨t, rfl⟩ := hx
    exact PySem.P.repr_of_str ⟨.str _, H, I.tok _, ⟨_, rfl⟩, q⟩ h4
  | lst hs ha =>
    obtain rfl : u = Value.ref _ := hx
    refine repr_of_reads' rd h1 (PyData.noDict_hsm h2) hg (by omega) (fun _ _ z => z) (fun h' u tk hk => ?_) h4
    exact ⟨.str _, H, I.kept (t' := tk) hk, ⟨_, rfl⟩, q⟩
  | tup hs ha =>
    obtain rfl : u = Value.ref _ := hx
    refine repr_of_reads' rd h1 (PyData.noDict_hsm h2) hg (by omega) (fun _ _ z => z) (fun h' u tk hk => ?_) h4
    exact ⟨.str _, H, I.kept (t' := tk) hk, ⟨_, rfl⟩, q⟩
end
/-! ### the law's end -/
section
variable {P : Program} {w : World} {K : PySem.W.Frag} {mg mb : Str → Option Value} {k : Nat} {fa a : Addr} {fd : FuncData} {x : Str} {sp : Sp} {s1 : Shared} {vs : List Value} {ns : List Int}
/-- from a heap H in which at most the script is tracked -/
theorem law_from {H : Hp} (KX : K.In s1.heap) (hns : s1.heap.Ns mainGlobals mg) (hb : s1.heap.Ns builtinsNs mb) (hbb : ∀ x : Str, x ≠ "__name__" → mb x = bootBuiltins x) (hlim : s1.heap.NoLimit) (hg : s1.gens = #[])
    (ha : s1.heap.get? a = some { cls := .type "list", data := .seq vs.toArray }) (hr : Room k callerA) (F : ∀ base : Heap, K.In base → base.Ns mainGlobals mg → FnG P w K mg base k fa fd [x] sp)
    (hbind : ∀ (s : Shared) (u : Value), BindsTo s fd ⟨[u], []⟩ [(x, u)]) (hO : Only H) (hok : HOk P w H s1.heap) (hA : ∀ b, H b ≠ none → b = a) (hK : H a ≠ none → K.lookup a = none)
    (hsp : sp [.ref a] H (fun v _ => v = .bl true) fun _ _ _ => False) :
    codeAny (model P w) callerA (.call (.ref fa) ⟨[.ref a], []⟩) (fun r s' => r = .ok (.ret (.bool true)) ∧ OldK s1.heap s'.heap ∧ s'.os = s1.os ∧ AllBare s'.gens) s1 := by
  have untr : ∀ {b : Addr} {o : Obj} {es : Array DictEntry} {ep : Nat}, s1.heap.get? b = some o → o.data = .dict es ep → H b = none := by
    intro b o es ep e d
    cases q : H b with
    | none => rfl
    | some u =>
      obtain rfl : b = a := hA b (by rw [q]; exact Option.some_ne_none u)
      rw [ha] at e
      cases e
      exact absurd (show Data.seq vs.toArray _ = Data.dict es ep from d) (by intro z; cases z)
  have nsH : ∀ {b : Addr} {m : Str → Option Value}, s1.heap.Ns b m → (hidT s1.heap H).Ns b m := by
    rintro b m ⟨o, es, ep, e, d, r⟩
    exact ⟨o, es, ep, hidT_get e (untr e d), d, r⟩
  have inH : K.In (hidT s1.heap H) := by
    intro b o e
    refine hidT_get (KX b o e) ?_
    cases q : H b with
    | none => rfl
    | some u =>
      have hne : H b ≠ none := by rw [q]; exact Option.some_ne_none u
      obtain rfl : b = a := hA b hne
      rw [hK hne] at e
      cases e
  obtain ⟨mc, l1, l2⟩ := hlim
  have md : Mod K mg (hidT s1.heap H) := ⟨inH, nsH hns, ⟨mb, nsH hb, hbb⟩, ⟨mc, nsH l1, l2⟩⟩
  have e0 : Env0 P w K mg (hidT s1.heap H) callerA [] s1 H := by
    refine ⟨rfl, md, fun b o e => of_hidT e, Nat.le_of_eq (hidT_size _ _), trivial, ?_, hok, .of_eq hg⟩
    intro b hb
    cases (show b ∈ ([] : List Addr) from hb)
  have run := (F _ inH (nsH hns)).goes callerA [] s1 H ⟨[.ref a], []⟩ [.ref a] [.ref a] _ _ rfl hr e0 (hbind s1 (.ref a)) (.cons rfl .nil) hsp
  refine codeAny_mono run fun r s' h => ?_
  match r, h with
  | .error e, h => exact (show False from h).elim
  | .ok (.ret u), ⟨v, H', os, bare, un, hok', r', q⟩ =>
    obtain rfl : v = .bl true := q
    obtain rfl : u = Value.bool true := r'
    refine ⟨rfl, OldK.of_keep ?_, os, bare⟩
    intro b o e
    cases q : H b with
    | none => exact un.keep b o e q (fun z => by cases (show b ∈ ([] : List Addr) from z)) (fun z => by cases z)
    | some u =>
      rcases hO b with z | ⟨ob, xs, z⟩
      · rw [q] at z
        cases z
      · have k1 := (hok b _ z).1
        have k2 := (hok' b _ (un.frzs b ob _ z)).1
        rw [e] at k1
        cases k1
        exact k2
theorem law_g (KX : K.In s1.heap) (hns : s1.heap.Ns mainGlobals mg) (hb : s1.heap.Ns builtinsNs mb) (hbb : ∀ x : Str, x ≠ "__name__" → mb x = bootBuiltins x) (hlim : s1.heap.NoLimit) (hg : s1.gens = #[])
    (ha : s1.heap.get? a = some { cls := .type "list", data := .seq vs.toArray }) (hi : IntsAre vs ns) (hl : ns.length ≤ sizeLine) (hr : Room k callerA) (F : ∀ base : Heap, K.In base → base.Ns mainGlobals mg → FnG P w K mg base k fa fd [x] sp)
    (hbind : ∀ (s : Shared) (u : Value), BindsTo s fd ⟨[u], []⟩ [(x, u)]) (hsp : ∀ H : Hp, Only H → SqL K H a (ns.map V.int) → sp [.ref a] H (fun v _ => v = .bl true) fun _ _ _ => False) :
    codeAny (model P w) callerA (.call (.ref fa) ⟨[.ref a], []⟩) (fun r s' => r = .ok (.ret (.bool true)) ∧ OldK s1.heap s'.heap ∧ s'.os = s1.os ∧ AllBare s'.gens) s1 := by
  have rv := vals_ints hi
  have lv := hi.length
  cases hk : K.lookup a with
  | some o =>
    have e := KX a o hk
    rw [ha] at e
    cases e
    refine law_from (H := fun _ => none) KX hns hb hbb hlim hg ha hr F hbind (fun _ => Or.inl rfl) (fun b u z => ?_) (fun b z => absurd rfl z) (fun z => absurd rfl z) (hsp _ (fun _ => Or.inl rfl) (Or.inr ?_))
    · cases (show (none : Option HO) = some u from z)
    · exact ⟨_, vs.toArray, _, hk, rfl, rfl, rfl, by rw [List.size_toArray, lv]; exact hl, by simpa using rv⟩
  | none =>
    let ob : Obj := { cls := .type "list", data := .seq vs.toArray }
    have one : ∀ b, (if b = a then some (HO.frz ob (.lst (ns.map V.int))) else none) ≠ none → b = a := fun b z => by
      by_cases hb : b = a
      · exact hb
      · exact absurd (if_neg hb) z
    have only : Only (fun b => if b = a then some (HO.frz ob (.lst (ns.map V.int))) else none) := fun b => by
      by_cases hb : b = a
      · exact Or.inr ⟨_, _, if_pos hb⟩
      · exact Or.inl (if_neg hb)
    refine law_from (H := fun b => if b = a then some (HO.frz ob (.lst (ns.map V.int))) else none) KX hns hb hbb hlim hg ha hr F hbind only (fun b u z => ?_) one (fun _ => hk) (hsp _ only (Or.inl (Or.inr ⟨ob, if_pos rfl⟩)))
    by_cases hb : b = a
    · obtain rfl := Option.some.inj ((if_pos hb).symm.trans z)
      subst hb
      exact ⟨ha, by rw [List.length_map]; exact hl, vs, _, rv, ha⟩
    · cases (if_neg hb).symm.trans z
end
theorem walk_g {l : PySem.W.OpenLaw} {n k : Nat} {q : Program} {loose : List Str} {XP : (Str → Option Value) → Heap → Prop} {YP : World → Heap → Prop} {d : DefRec} {K : Params → PySem.W.Frag} {sp : PySem.W.Frag → Sp} {x : Str}
    (hn : l.most = some n) (hn2 : n ≤ sizeLine) (hdf : d.params.defaults = []) (hr : Room k callerA) (hY : ∀ (w : World) (h : Heap), YP w h → (K w.params).In h)
    (F : ∀ (w : World) (mg : Str → Option Value) (fa : Addr) (h : Heap), (K w.params).In h → h.Ns mainGlobals mg → mg d.name = some (.ref fa) → ∃ fd : FuncData, (∀ (s : Shared) (u : Value), BindsTo s fd ⟨[u], []⟩ [(x, u)]) ∧
        ∀ base : Heap, (K w.params).In base → base.Ns mainGlobals mg → FnG l.prog w (K w.params) mg base k fa fd [x] (sp (K w.params)))
    (hsp : ∀ (K : PySem.W.Frag) (H : Hp) (a : Addr) (ns : List Int), ns.length ≤ n → SqL K H a (ns.map V.int) → sp K [.ref a] H (fun v _ => v = .bl true) fun _ _ _ => False) :
    PySem.W.WalkO q loose XP YP l.row.toRowW d [] (fun f vs => PySem.call f vs) := by
  refine Att.attach_call hn hdf fun w s0 s1 mg mb fa o pm cd doc a vs ns G Y ho hd hcd hmg hobj hints hlen hg => ?_
  obtain ⟨fd, hb, hF⟩ := F w mg fa _ (hY w _ Y) G.T.g hmg
  exact law_g (hY w _ Y) G.T.g G.T.b G.T.builtins G.T.nolimit hg hobj hints (Nat.le_trans hlen hn2) hr hF hb fun H _ hS => hsp (K w.params) H a ns hlen hS
end Gd
set_option Elab.async false
set_option linter.all false
set_option maxRecDepth 100000
/-! Common words: sizes of ints, heaps that grow, defs of the text by their names. -/
namespace Gd
open PySem PySem.Spec PyProof.Rows L2
/-! ### sizes -/
def B (n : Nat) (x : Int) : Prop := x.natAbs < 2 ^ n
theorem B.up {m n : Nat} {x : Int} (h : B m x) (k : m ≤ n) : B n x := Nat.lt_of_lt_of_le h (Nat.pow_le_pow_right (by decide) k)
theorem B.add {m n : Nat} {x y : Int} (hx : B m x) (hy : B n y) : B (max m n + 1) (x + y) := by
  have h1 : x.natAbs < 2 ^ max m n := hx.up (Nat.le_max_left m n)
  have h2 : y.natAbs < 2 ^ max m n := hy.up (Nat.le_max_right m n)
  unfold B
  rw [Nat.pow_succ]
  omega
theorem B.neg {n : Nat} {x : Int} (hx : B n x) : B n (-x) := by
  unfold B at *
  omega
theorem B.sub {m n : Nat} {x y : Int} (hx : B m x) (hy : B n y) : B (max m n + 1) (x - y) := by
  rw [Int.sub_eq_add_neg]
  exact hx.add hy.neg
theorem B.mul {m n : Nat} {x y : Int} (hx : B m x) (hy : B n y) : B (m + n) (x * y) := wide_lt hx hy
theorem B.pow {m : Nat} {x : Int} (hx : B m x) : ∀ k : Nat, B (m * k + 1) (x ^ k)
  | 0 => by
    rw [Int.pow_zero]
    exact Nat.one_lt_two_pow (by omega)
  | k + 1 => by
    rw [Int.pow_succ]
    exact ((B.pow hx k).mul hx).up (by rw [Nat.mul_succ]; omega)
theorem B.lit {n : Nat} {x : Int} (h : x.natAbs < 2 ^ n) : B n x := h
theorem B.mulW {m n : Nat} {x y : Int} (hx : B m x) (hy : B n y) (h : m + n ≤ 900000) : CMulW x y :=
  wide_mul (hx.up (Nat.le_add_right m 1)) (hy.up (Nat.le_add_right n 1)) (by omega) (by omega) (by omega)
theorem B.mulL {n : Nat} {x y : Int} (hx : B n x) (h : n ≤ 64) : CMul x y := by
  have h1 := hx.up h
  unfold B at h1
  exact Or.inl ⟨by omega, by omega⟩
theorem B.mulR {n : Nat} {x y : Int} (hy : B n y) (h : n ≤ 64) : CMul x y := by
  have h1 := hy.up h
  unfold B at h1
  exact Or.inr ⟨by omega, by omega⟩
theorem B.log {n : Nat} {x : Int} (hx : B n x) (h : n ≤ 1900) : x.natAbs.log2 < 1920 := by
  have h1 : x.natAbs < 2 ^ 1901 := hx.up (by omega)
  exact PySem.Flt.log2_lt_of (by decide) (Nat.lt_of_lt_of_le h1 (Nat.pow_le_pow_right (by decide) (by decide)))
theorem B.between {n : Nat} {x : Int} (m : Int) (h0 : -m ≤ x) (h1 : x ≤ m) (h : m.natAbs < 2 ^ n) : B n x := by
  unfold B
  omega
theorem small {n : Nat} (h : n ≤ 1000) : n ≤ sizeLine := Nat.le_trans h (by decide)
/-! ### heaps -/
theorem Same.new {H : Hp} {p : Addr} {o : HO} (h : H p = none) : Same H (upd H p o) := fun b x e => by
  rw [upd_ne (ne_of_none e h)]
  exact e
theorem Same.put {H H1 : Hp} {p : Addr} {o : HO} (s : Same H H1) (h : H p = none) : Same H (upd H1 p o) := fun b x e => by
  rw [upd_ne (ne_of_none e h)]
  exact s b x e
theorem Same.rd {H H' : Hp} {a : Addr} {u : HO} (e : Same H H') (h : Rd H a u) : Rd H' a u := by
  rcases h with h | ⟨o, h⟩
  · exact Or.inl (e _ _ h)
  · exact Or.inr ⟨o, e _ _ h⟩
theorem Same.tup {K : PySem.W.Frag} {H H' : Hp} {a : Addr} {xs : List V} (e : Same H H') (h : SqT K H a xs) : SqT K H' a xs := by
  rcases h with h | h
  · exact Or.inl (Same.rd e h)
  · exact Or.inr h
theorem tup_of {K : PySem.W.Frag} {H : Hp} {a : Addr} {xs : List V} (h : H a = some (.tup xs)) : SqT K H a xs := Or.inl (Or.inl h)
theorem lst_of {K : PySem.W.Frag} {H : Hp} {a : Addr} {xs : List V} (h : H a = some (.lst xs)) : SqL K H a xs := Or.inl (Or.inl h)
/-- all but what stands at m is as it was -/
def But (m : Addr) (H H' : Hp) : Prop := ∀ b o, H b = some o → b ≠ m → H' b = some o
theorem But.refl (m : Addr) (H : Hp) : But m H H := fun _ _ e _ => e
theorem But.trans {m : Addr} {H H1 H2 : Hp} (a : But m H H1) (b : But m H1 H2) : But m H H2 := fun c o e n => b c o (a c o e n) n
theorem But.of {m : Addr} {H H' : Hp} (a : Same H H') : But m H H' := fun c o e _ => a c o e
theorem But.upd {m : Addr} {H : Hp} {o : HO} : But m H (upd H m o) := fun c x e n => by
  rw [upd_ne n]
  exact e
/-- the same where m was not known -/
theorem But.same {m : Addr} {H H1 H2 : Hp} (s : Same H H1) (b : But m H1 H2) (h : H m = none) : Same H H2 := fun c o e => b c o (s c o e) (ne_of_none e h)
/-- the slots said anew -/
theorem sig {nx : L2.St → Hp → Prop} {σ : L2.St} {H : Hp} (σ' : L2.St) (e : σ = σ') (h : nx σ' H) : nx σ H := e ▸ h
theorem sigN {nx : L2.St → Hp → Prop} {i : Nat} {v : V} {σ : L2.St} {H : Hp} (σ' : L2.St) (e : σ.set i (some v) = σ') (h : nx σ' H) : gName i v σ H nx := by
  subst e
  exact h
/-- a number of the module -/
theorem pe_kon {X : Cx} {x : Str} {pos : Pos} {v : V} (hg : Gl X x) (h : ∃ u, X.mg x = some u ∧ RelV v u) (hd : (x == ("__debug__" : Str)) = false := by decide) : PE X (.Name x pos) (tC v) := by
  obtain ⟨u, hm, r⟩ := h
  exact pe_glob hg hm r hd
/-- int(n) of a number -/
theorem call_intI {X : Cx} : CallR X (.type "int") (fun xs H Q => ∃ i, xs = [.int i] ∧ Q (.int i) H) := fun pins s σ H xs us Q I r h => call_int1 pins s σ H xs us Q I r (Or.inl h)
/-! ### the state of the draws: four entries -/
def mk4 (L s : Int) (c : Addr) (n : Int) : List (Key × V) := [(Sum.inr "left", .int L), (Sum.inr "seed", .int s), (Sum.inr "cells", .ref c), (Sum.inr "spot", .int n)]
theorem kn12 : ¬ (("left" : Str) = "seed") := by decide +kernel
theorem kn13 : ¬ (("left" : Str) = "cells") := by decide +kernel
theorem kn14 : ¬ (("left" : Str) = "spot") := by decide +kernel
theorem kn23 : ¬ (("seed" : Str) = "cells") := by decide +kernel
theorem kn24 : ¬ (("seed" : Str) = "spot") := by decide +kernel
theorem kn34 : ¬ (("cells" : Str) = "spot") := by decide +kernel
theorem kn21 : ¬ (("seed" : Str) = "left") := by decide +kernel
theorem kn31 : ¬ (("cells" : Str) = "left") := by decide +kernel
theorem kn41 : ¬ (("spot" : Str) = "left") := by decide +kernel
theorem kn42 : ¬ (("spot" : Str) = "seed") := by decide +kernel
theorem kn43 : ¬ (("spot" : Str) = "cells") := by decide +kernel
theorem kn32 : ¬ (("cells" : Str) = "seed") := by decide +kernel
section
variable {L s n : Int} {c : Addr}
theorem m4_left : valV (mk4 L s c n) (Sum.inr "left") = some (.int L) := by simp [valV, mk4, List.find?_cons]
theorem m4_seed : valV (mk4 L s c n) (Sum.inr "seed") = some (.int s) := by simp [valV, mk4, List.find?_cons, kn12]
theorem m4_cells : valV (mk4 L s c n) (Sum.inr "cells") = some (.ref c) := by simp [valV, mk4, List.find?_cons, kn13, kn23]
theorem m4_spot : valV (mk4 L s c n) (Sum.inr "spot") = some (.int n) := by simp [valV, mk4, List.find?_cons, kn14, kn24, kn34]
theorem m4_putL (y : Int) : putK (mk4 L s c n) (Sum.inr "left") (.int y) = mk4 y s c n := by simp [putK, mk4, kn21, kn31, kn41]
theorem m4_merge : mergeK [] (mk4 L s c n) = mk4 L s c n := by simp [mergeK, putK, mk4, List.foldl, kn12, kn13, kn14, kn23, kn24, kn34]
theorem m4_putS (y : Int) : putK (mk4 L s c n) (Sum.inr "spot") (.int y) = mk4 L s c y := by simp [putK, mk4, kn14, kn24, kn34]
end
/-- the state stands at m, with at most n draws out of the cells behind it -/
def MAt (H : Hp) (m c : Addr) (n : Nat) : Prop := ∃ (L s : Int) (cs : List Int) (k : Nat), H m = some (.dK (mk4 L s c (k : Int))) ∧ k ≤ n ∧ H c = some (.lst (cs.map V.int)) ∧ 0 < cs.length
theorem MAt.up {H : Hp} {m cl : Addr} {n n' : Nat} (h : MAt H m cl n) (k : n ≤ n') : MAt H m cl n' := by
  obtain ⟨L, s, cs, j, h1, h2, h3, h4⟩ := h
  exact ⟨L, s, cs, j, h1, Nat.le_trans h2 k, h3, h4⟩
theorem MAt.same {H H' : Hp} {m cl : Addr} {n : Nat} (h : MAt H m cl n) (e : Same H H') : MAt H' m cl n := by
  obtain ⟨L, s, cs, j, h1, h2, h3, h4⟩ := h
  exact ⟨L, s, cs, j, e _ _ h1, h2, e _ _ h3, h4⟩
theorem MAt.some {H : Hp} {m cl : Addr} {n : Nat} (h : MAt H m cl n) : ∃ kvs, H m = some (.dK kvs) := by
  obtain ⟨L, s, cs, j, h1, _⟩ := h
  exact ⟨_, h1⟩
theorem MAt.ne {H : Hp} {m cl p : Addr} {n : Nat} (h : MAt H m cl n) (e : H p = none) : m ≠ p ∧ cl ≠ p := by
  obtain ⟨L, s, cs, j, h1, h2, h3, h4⟩ := h
  exact ⟨ne_of_none h1 e, ne_of_none h3 e⟩
theorem MAt.put {H : Hp} {m cl p : Addr} {n : Nat} {o : HO} (h : MAt H m cl n) (e : m ≠ p ∧ cl ≠ p) : MAt (upd H p o) m cl n := by
  obtain ⟨L, s, cs, j, h1, h2, h3, h4⟩ := h
  refine ⟨L, s, cs, j, ?_, h2, ?_, h4⟩
  · rw [upd_ne e.1]
    exact h1
  · rw [upd_ne e.2]
    exact h3
/-- what the draws leave: fresh stays fresh -/
theorem But.free {m p cl : Addr} {H H' : Hp} {n : Nat} (b : But m H H') (h : MAt H' m cl n) (e : H' p = none) : H p = none := by
  obtain ⟨kvs, hm⟩ := h.some
  cases q : H p with
  | none => rfl
  | some o =>
    by_cases hp : p = m
    · subst hp
      rw [hm] at e
      cases e
    · rw [b p o q hp] at e
      cases e
theorem But.tup {m p cl : Addr} {H H' : Hp} {n : Nat} {xs : List V} (b : But m H H') (h : MAt H m cl n) (e : H p = some (.tup xs)) : H' p = some (.tup xs) := by
  obtain ⟨kvs, hm⟩ := h.some
  exact b p _ e (ne_of e hm (by intro z; cases z))
theorem But.lst {m p cl : Addr} {H H' : Hp} {n : Nat} {xs : List V} (b : But m H H') (h : MAt H m cl n) (e : H p = some (.lst xs)) : H' p = some (.lst xs) := by
  obtain ⟨kvs, hm⟩ := h.some
  exact b p _ e (ne_of e hm (by intro z; cases z))
theorem But.seqL {K : PySem.W.Frag} {m p cl : Addr} {H H' : Hp} {n : Nat} {xs : List V} (b : But m H H') (h : MAt H m cl n) (e : SqL K H p xs) : SqL K H' p xs := by
  obtain ⟨kvs, hm⟩ := h.some
  rcases e with (e | ⟨o, e⟩) | e
  · exact Or.inl (Or.inl (b p _ e (ne_of e hm (by intro z; cases z))))
  · exact Or.inl (Or.inr ⟨o, b p _ e (ne_of e hm (by intro z; cases z))⟩)
  · exact Or.inr e
theorem But.seqT {K : PySem.W.Frag} {m p cl : Addr} {H H' : Hp} {n : Nat} {xs : List V} (b : But m H H') (h : MAt H m cl n) (e : SqT K H p xs) : SqT K H' p xs := by
  obtain ⟨kvs, hm⟩ := h.some
  rcases e with (e | ⟨o, e⟩) | e
  · exact Or.inl (Or.inl (b p _ e (ne_of e hm (by intro z; cases z))))
  · exact Or.inl (Or.inr ⟨o, b p _ e (ne_of e hm (by intro z; cases z))⟩)
  · exact Or.inr e
/-! ### tuples -/
theorem catA_any {K : PySem.W.Frag} {H : Hp} {Q : VK} {a b : Addr} {xs ys : List V} (ha : SqT K H a xs) (hb : SqT K H b ys) (hl : xs.length + ys.length ≤ 1000) (k : ∀ p H', Same H H' → SqT K H' p (xs ++ ys) → Q (.ref p) H') : rCatA K (.ref a) (.ref b) H Q := by
  refine ⟨a, b, xs, ys, rfl, rfl, ha, hb, small hl, fun e => ?_, fun _ e => ?_, fun _ _ p hp => k p _ (Same.new hp) (tup_of upd_same)⟩
  · subst e
    exact k b H (Same.refl H) hb
  · subst e
    exact k a H (Same.refl H) (by rw [List.append_nil]; exact ha)
theorem slA_any {K : PySem.W.Frag} {H : Hp} {Q : VK} {a : Addr} {xs : List V} {lo hi : Option Int} (ha : SqT K H a xs) (k : ∀ p H', Same H H' → SqT K H' p (cutV xs lo hi) → Q (.ref p) H') : rSlA K (.ref a) lo hi H Q := by
  refine ⟨a, xs, rfl, ha, fun e => ?_, fun _ p hp => k p _ (Same.new hp) (tup_of upd_same)⟩
  refine k a H (Same.refl H) ?_
  have e2 : cutV xs lo hi = xs := by
    unfold cutV
    rw [e.1, e.2, List.drop_zero, Nat.sub_zero, List.take_length]
  rw [e2]
  exact ha
/-! ### defs by their names -/
structure Df (K : PySem.W.Frag) (mg : Str → Option Value) (x : Str) (st : Stmt) (ps : List Str) : Prop where
  ex : ∃ (f : Addr) (fd : FuncData), Fun K x x st f fd ∧ mg x = some (.ref f) ∧ Binds K fd ps []
section
variable {P : Program} {w : World} {K : PySem.W.Frag} {mg : Str → Option Value} {base : Heap} {x : Str} {st : Stmt} {N ps : List Str} {k : Nat} {sp : Sp}
theorem Kl.by_body (D : Df K mg x st ps) (S : FnScope N ps (defScope st)) (len : ∀ vs H Q E, sp vs H Q E → vs.length = ps.length)
    (hb : ∀ (f : Addr) (cdv : Value) (A : Around) (outer : List Env) (s : Shared) (H : Hp) (vs : List V) (Q : VK) (E : XK), Room k (A.deeper (envOfC x (defScope st) s.heap.objs.size f cdv)) → sp vs H Q E →
      ∃ t, PSs (cxOf CX0 P w K mg base N x (defScope st) f cdv A outer s H E).nox (defBody st) t ∧ t { nx := fun _ H' => Q .non H', rt := Q } (start N vs) H) : Kl P w K mg base (k + 1) x sp := by
  obtain ⟨f, fd, F, hm, b⟩ := D.ex
  exact ⟨f, fd, ps, F.ok S len (hb f), hm, F.kp, b⟩
theorem Kg.by_body (D : Df K mg x st ps) (S : FnScope N ps (defScope st)) (len : ∀ vs H Q E, sp vs H Q E → vs.length = ps.length)
    (hb : ∀ (f : Addr) (cdv : Value) (A : Around) (outer : List Env) (s : Shared) (H : Hp) (vs : List V) (Q : VK) (E : XK), A.guards = some [] → Room k (A.deeper (envOfC x (defScope st) s.heap.objs.size f cdv)) → sp vs H Q E →
      ∃ t, PSs (cxOf CX0 P w K mg base N x (defScope st) f cdv A outer s H E).nox (defBody st) t ∧ t { nx := fun _ H' => Q .non H', rt := Q } (start N vs) H) : Kg P w K mg base (k + 1) x sp := by
  obtain ⟨f, fd, F, hm, b⟩ := D.ex
  exact ⟨f, fd, ps, FnG.by_body F S len (hb f), hm, F.kp, b⟩
theorem df_mk {h : Heap} {f : Addr} {oc : Value} {od an : Option Addr} {osl : Array (Option Value)} {kV doc pm cdv ct : Value} (X : K.In h) (G : h.Ns mainGlobals mg) (a : PySem.W.nsIn K mainGlobals x = some (some (.ref f)))
    (l : K.lookup f = some ⟨oc, od, .func (PySem.W.fnOf x x (defArgs st) (defBody st) (defScope st) .none kV doc pm an cdv ct), osl⟩) (c : PySem.W.codeIn K cdv x = true) (kp : PySem.W.keepIn K (.ref f) = true)
    (hb : ∀ (kV doc pm : Value) (an : Option Addr) (cdv ct : Value) (us : List Value), us.length = ps.length → bindArgs (PySem.W.fnOf x x (defArgs st) (defBody st) (defScope st) .none kV doc pm an cdv ct) ⟨us, []⟩ = pure (ps.zip us)) : Df K mg x st ps :=
  ⟨f, _, fun_mk l c kp, PySem.W.mg_of X G a, (fun_mk l c kp).binds hb⟩
theorem law_fd {h : Heap} {fa f : Addr} {j : Nat} {oc : Value} {od an : Option Addr} {osl : Array (Option Value)} {kV doc pm cdv ct : Value} (X : K.In h) (G : h.Ns mainGlobals mg) (hfa : mg "law" = some (.ref fa)) (a : PySem.W.nsIn K mainGlobals "law" = some (some (.ref f)))
    (l : K.lookup f = some ⟨oc, od, .func (PySem.W.fnOf "law" "law" (defArgs st) (defBody st) (defScope st) .none kV doc pm an cdv ct), osl⟩) (c : PySem.W.codeIn K cdv "law" = true) (kp : PySem.W.keepIn K (.ref f) = true)
    (hb : ∀ (kV doc pm : Value) (an : Option Addr) (cdv ct : Value) (us : List Value), us.length = 1 → bindArgs (PySem.W.fnOf "law" "law" (defArgs st) (defBody st) (defScope st) .none kV doc pm an cdv ct) ⟨us, []⟩ = pure ((["script"] : List Str).zip us))
    (go : ∀ fd, Fun K "law" "law" st fa fd → ∀ base : Heap, FnG P w K mg base j fa fd ["script"] sp) :
    ∃ fd : FuncData, (∀ (s : Shared) (u : Value), BindsTo s fd ⟨[u], []⟩ [("script", u)]) ∧ ∀ base : Heap, K.In base → base.Ns mainGlobals mg → FnG P w K mg base j fa fd ["script"] sp := by
  have e := hfa.symm.trans (PySem.W.mg_of X G a)
  cases e
  exact ⟨_, fun s u => .of_eq (hb kV doc pm an cdv ct [u] rfl), fun base _ _ => go _ (fun_mk l c kp) base⟩
end
end Gd
set_option linter.all false
/-! fractions: plain Lean -/
namespace QM
/-- n / d in lowest terms -/
def sg (n d : Int) : Int := if d < 0 then -((Nat.gcd n.natAbs d.natAbs : Nat) : Int) else ((Nat.gcd n.natAbs d.natAbs : Nat) : Int)
theorem sg_ne {n d : Int} (h : d ≠ 0) : sg n d ≠ 0 := by
  have hp : 0 < Nat.gcd n.natAbs d.natAbs := Nat.gcd_pos_of_pos_right _ (by omega)
  unfold sg
  split <;> omega
theorem fdiv_neg' (a b : Int) : (-a).fdiv (-b) = a.fdiv b := by
  exact Int.neg_fdiv_neg a b
theorem fr_num {n d : Int} (h : d ≠ 0) : n.fdiv (sg n d) = (Rat.divInt n d).num := by
  rw [Rat.num_divInt]
  unfold sg
  have g0 : ((Int.gcd d n : Nat) : Int) = ((Nat.gcd n.natAbs d.natAbs : Nat) : Int) := by rw [Int.gcd_comm]; rfl
  split
  · rename_i e
    rw [Int.sign_eq_neg_one_of_neg e, g0, Int.neg_mul, Int.one_mul]
    have e1 : n.fdiv (-((Nat.gcd n.natAbs d.natAbs : Nat) : Int)) = (-n).fdiv ((Nat.gcd n.natAbs d.natAbs : Nat) : Int) := by
      rw [← fdiv_neg' n, Int.neg_neg]
    rw [e1, Int.fdiv_eq_ediv_of_nonneg _ (by omega)]
  · rename_i e
    rw [Int.sign_eq_one_of_pos (by omega), g0, Int.one_mul, Int.fdiv_eq_ediv_of_nonneg _ (by omega)]
theorem fr_den {n d : Int} (h : d ≠ 0) : d.fdiv (sg n d) = ((Rat.divInt n d).den : Int) := by
  rw [Rat.den_divInt, if_neg h]
  have g0 : Int.gcd d n = Nat.gcd n.natAbs d.natAbs := by rw [Int.gcd_comm]; rfl
  rw [g0]
  unfold sg
  split
  · rename_i e
    have e1 : d.fdiv (-((Nat.gcd n.natAbs d.natAbs : Nat) : Int)) = (-d).fdiv ((Nat.gcd n.natAbs d.natAbs : Nat) : Int) := by
      rw [← fdiv_neg' d, Int.neg_neg]
    rw [e1, Int.fdiv_eq_ediv_of_nonneg _ (by omega), Int.natCast_ediv]
    congr 1
    omega
  · rename_i e
    rw [Int.fdiv_eq_ediv_of_nonneg _ (by omega), Int.natCast_ediv]
    congr 1
    omega
theorem den_ne (a : Rat) : (a.den : Int) ≠ 0 := by
  have := a.den_nz
  omega
theorem denR (a : Rat) : ((a.den : Int) : Rat) ≠ 0 := by
  intro h
  exact den_ne a (by exact_mod_cast h)
theorem as_div (a : Rat) : a = (a.num : Rat) / ((a.den : Int) : Rat) := by
  rw [← Rat.divInt_eq_div, Rat.num_divInt_den]
theorem fr_add (a b : Rat) : Rat.divInt (a.num * b.den + b.num * a.den) (a.den * b.den) = a + b := by
  have ha := denR a
  have hb := denR b
  have ea := as_div a
  have eb := as_div b
  rw [Rat.divInt_eq_div, Rat.intCast_add, Rat.intCast_mul, Rat.intCast_mul, Rat.intCast_mul]
  grind
theorem fr_sub (a b : Rat) : Rat.divInt (a.num * b.den - b.num * a.den) (a.den * b.den) = a - b := by
  have ha := denR a
  have hb := denR b
  have ea := as_div a
  have eb := as_div b
  rw [Rat.divInt_eq_div, Rat.intCast_sub, Rat.intCast_mul, Rat.intCast_mul, Rat.intCast_mul]
  grind
theorem fr_mul (a b : Rat) : Rat.divInt (a.num * b.num) (a.den * b.den) = a * b := by
  have ha := denR a
  have hb := denR b
  have ea := as_div a
  have eb := as_div b
  rw [Rat.divInt_eq_div, Rat.intCast_mul, Rat.intCast_mul]
  grind
theorem num_ne {a : Rat} (h : a ≠ 0) : a.num ≠ 0 := fun e => h (Rat.num_eq_zero.mp e)
theorem fr_div (a b : Rat) (h : b ≠ 0) : Rat.divInt (a.num * b.den) (a.den * b.num) = a / b := by
  have ha := denR a
  have hb := denR b
  have ea := as_div a
  have eb := as_div b
  have hn : (b.num : Rat) ≠ 0 := fun e => num_ne h (by exact_mod_cast e)
  rw [Rat.divInt_eq_div, Rat.intCast_mul, Rat.intCast_mul]
  grind
theorem mul_ne {a b : Int} (h : a ≠ 0) (k : b ≠ 0) : a * b ≠ 0 := Int.mul_ne_zero h k
/-! sizes -/
def RB (n : Nat) (q : Rat) : Prop := q.num.natAbs < 2 ^ n ∧ (q.den : Int).natAbs < 2 ^ n
theorem RB.up {m n : Nat} {q : Rat} (h : RB m q) (k : m ≤ n) : RB n q := ⟨Nat.lt_of_lt_of_le h.1 (Nat.pow_le_pow_right (by decide) k), Nat.lt_of_lt_of_le h.2 (Nat.pow_le_pow_right (by decide) k)⟩
theorem dv_le {x g : Int} (h : g ≠ 0) (d : g ∣ x) : (x.fdiv g).natAbs ≤ x.natAbs := by
  obtain ⟨k, rfl⟩ := d
  rw [Int.mul_fdiv_cancel_left k h, Int.natAbs_mul]
  have h1 : 1 ≤ g.natAbs := by omega
  have h2 : 1 * k.natAbs ≤ g.natAbs * k.natAbs := Nat.mul_le_mul_right _ h1
  omega
theorem sg_dvd (n d : Int) : sg n d ∣ n := by
  have h : ((Nat.gcd n.natAbs d.natAbs : Nat) : Int) ∣ n := Int.ofNat_dvd_left.mpr (Nat.gcd_dvd_left _ _)
  unfold sg
  split
  · exact Int.neg_dvd.mpr h
  · exact h
theorem sg_dvd2 (n d : Int) : sg n d ∣ d := by
  have h : ((Nat.gcd n.natAbs d.natAbs : Nat) : Int) ∣ d := Int.ofNat_dvd_left.mpr (Nat.gcd_dvd_right _ _)
  unfold sg
  split
  · exact Int.neg_dvd.mpr h
  · exact h
theorem RB.of {m : Nat} {n d : Int} (h : d ≠ 0) (hn : n.natAbs < 2 ^ m) (hd : d.natAbs < 2 ^ m) : RB m (Rat.divInt n d) := by
  unfold RB
  rw [← fr_num h, ← fr_den (n := n) h]
  exact ⟨Nat.lt_of_le_of_lt (dv_le (sg_ne h) (sg_dvd n d)) hn, Nat.lt_of_le_of_lt (dv_le (sg_ne h) (sg_dvd2 n d)) hd⟩
theorem pmul {m n a b : Nat} (ha : a < 2 ^ m) (hb : b < 2 ^ n) : a * b < 2 ^ (m + n) := by
  rw [Nat.pow_add]
  rcases Nat.eq_zero_or_pos b with h | h
  · subst h
    rw [Nat.mul_zero]
    exact Nat.mul_pos (Nat.two_pow_pos m) (Nat.two_pow_pos n)
  · exact Nat.mul_lt_mul_of_lt_of_le ha (Nat.le_of_lt hb) (Nat.two_pow_pos n)
theorem RB.add {m n : Nat} {a b : Rat} (ha : RB m a) (hb : RB n b) : RB (m + n + 1) (a + b) := by
  rw [← fr_add]
  have h1 := pmul ha.1 hb.2
  have h2 := pmul ha.2 hb.1
  have h3 := pmul ha.2 hb.2
  refine RB.of (mul_ne (den_ne a) (den_ne b)) ?_ ?_
  · rw [Nat.pow_succ]
    have h4 : (a.num * ↑b.den + b.num * ↑a.den).natAbs ≤ (a.num * ↑b.den).natAbs + (b.num * ↑a.den).natAbs := Int.natAbs_add_le _ _
    rw [Int.natAbs_mul, Int.natAbs_mul, Nat.mul_comm b.num.natAbs] at h4
    omega
  · rw [Nat.pow_succ, Int.natAbs_mul]
    omega
theorem RB.neg {m : Nat} {a : Rat} (ha : RB m a) : RB m (-a) := by
  unfold RB at *
  rw [Rat.neg_num, Rat.neg_den, Int.natAbs_neg]
  exact ha
theorem RB.sub {m n : Nat} {a b : Rat} (ha : RB m a) (hb : RB n b) : RB (m + n + 1) (a - b) := by
  rw [Rat.sub_eq_add_neg]
  exact ha.add hb.neg
theorem RB.mul {m n : Nat} {a b : Rat} (ha : RB m a) (hb : RB n b) : RB (m + n) (a * b) := by
  rw [← fr_mul]
  refine RB.of (mul_ne (den_ne a) (den_ne b)) ?_ ?_
  · rw [Int.natAbs_mul]
    exact pmul ha.1 hb.1
  · rw [Int.natAbs_mul]
    exact pmul ha.2 hb.2
theorem RB.div {m n : Nat} {a b : Rat} (h : b ≠ 0) (ha : RB m a) (hb : RB n b) : RB (m + n) (a / b) := by
  rw [← fr_div a b h]
  refine RB.of (mul_ne (den_ne a) (num_ne h)) ?_ ?_
  · rw [Int.natAbs_mul]
    exact pmul ha.1 hb.2
  · rw [Int.natAbs_mul]
    exact pmul ha.2 hb.1
theorem RB.int {m : Nat} {n : Int} (h : n.natAbs < 2 ^ m) (k : 1 ≤ m) : RB m (n : Rat) := by
  unfold RB
  rw [Rat.num_intCast, Rat.den_intCast]
  exact ⟨h, Nat.lt_of_lt_of_le (by decide : 1 < 2 ^ 1) (Nat.pow_le_pow_right (by decide) k)⟩
theorem RB.pow {m : Nat} {a : Rat} (ha : RB m a) : ∀ k : Nat, RB (m * k + 1) (a ^ k)
  | 0 => by
    rw [Rat.pow_zero]
    exact RB.int (n := 1) (by rw [Nat.mul_zero]; decide) (by omega)
  | k + 1 => by
    rw [Rat.pow_succ]
    exact (RB.mul (RB.pow ha k) ha).up (by rw [Nat.mul_succ]; omega)
/-! powers -/
theorem npow (a : Rat) (k : Nat) : (a ^ k).num = a.num ^ k := Rat.num_pow a k
theorem dpow (a : Rat) (k : Nat) : (a ^ k).den = a.den ^ k := Rat.den_pow a k
theorem le_npow (a : Nat) {k : Nat} (h : 1 ≤ k) : a ≤ a ^ k := by
  rcases Nat.eq_zero_or_pos a with e | e
  · omega
  · calc a = a ^ 1 := (Nat.pow_one a).symm
      _ ≤ a ^ k := Nat.pow_le_pow_right e h
theorem RB.root {m k : Nat} {a : Rat} (h : 1 ≤ k) (ha : RB m (a ^ k)) : RB m a := by
  unfold RB at *
  rw [npow, dpow, Int.natAbs_pow] at ha
  refine ⟨Nat.lt_of_le_of_lt (le_npow _ h) ha.1, ?_⟩
  have e : ((a.den ^ k : Nat) : Int).natAbs = a.den ^ k := Int.natAbs_natCast _
  rw [e] at ha
  rw [Int.natAbs_natCast]
  exact Nat.lt_of_le_of_lt (le_npow _ h) ha.2
theorem num_pos {a : Rat} (h : 0 < a) : 0 < a.num := by
  have h1 : 0 ≤ a.num := Rat.num_nonneg.mpr (Rat.le_of_lt h)
  have h2 : a.num ≠ 0 := num_ne (fun e => by rw [e] at h; exact absurd h (by decide))
  omega
end QM
set_option Elab.async false
set_option linter.all false
set_option maxRecDepth 100000
/-! fractions as pairs of ints; promises of the sums -/
namespace Gd
open PySem PySem.Spec PyProof.Rows L2 QM
/-- // by any divisor but 0, below 2 ^ 9000 -/
def CDivAny (_ j : Int) : Prop := j ≠ 0 ∧ j.natAbs.log2 < 9000
theorem op_fdivAny {X : Cx} : OpR X (binaryOp .FloorDiv) (rI CDivAny fun i j => .int (i.fdiv j)) := opI fun _ _ _ _ _ _ _ hc q => floordiv_int hc.1 q (.inl (PyProof.noPylong_of_log2 hc.2))
theorem B.log9 {n : Nat} {x : Int} (hx : B n x) (h : n ≤ 8900) : x.natAbs.log2 < 9000 := by
  have h1 : x.natAbs < 2 ^ 8901 := hx.up (by omega)
  exact PySem.Flt.log2_lt_of (by decide) (Nat.lt_of_lt_of_le h1 (Nat.pow_le_pow_right (by decide) (by decide)))
theorem div_any {m : Nat} {i j : Int} (h : j ≠ 0) (hb : B m j) (hm : m ≤ 8900) : CDivAny i j := ⟨h, hb.log9 hm⟩
theorem gcd_B {m : Nat} {n d : Int} (h : d ≠ 0) (hb : B m d) : B m ((Nat.gcd n.natAbs d.natAbs : Nat) : Int) := by
  unfold B at *
  have h1 : Nat.gcd n.natAbs d.natAbs ≤ d.natAbs := Nat.gcd_le_right _ (by omega)
  omega
theorem sg_B {m : Nat} {n d : Int} (h : d ≠ 0) (hb : B m d) : B m (sg n d) := by
  unfold sg
  split
  · exact (gcd_B h hb).neg
  · exact gcd_B h hb
/-- a fraction's pair -/
def fq (q : Rat) : List V := [.int q.num, .int (q.den : Int)]
theorem fq_div {n d : Int} (h : d ≠ 0) : [V.int (n.fdiv (sg n d)), V.int (d.fdiv (sg n d))] = fq (Rat.divInt n d) := by
  unfold fq
  rw [fr_num h, fr_den h]
theorem fq_int (n : Int) : fq (n : Rat) = [.int n, .int 1] := by
  unfold fq
  rw [Rat.num_intCast, Rat.den_intCast]
  rfl
theorem fq_inj {a b : Rat} (h : fq a = fq b) : a = b := by
  unfold fq at h
  simp only [List.cons.injEq, V.int.injEq, and_true] at h
  exact Rat.ext h.1 (by omega)
def dq (q : Rat) : PyData := .tuple [.int q.num, .int (q.den : Int)]
theorem dp_q {K : PySem.W.Frag} {H : Hp} {p : Addr} {q : Rat} (h : SqT K H p (fq q)) : Dp K H (.ref p) (dq q) := .tup h (.cons (.int _) (.cons (.int _) .nil))
theorem dq_inj {a b : Rat} : dq a = dq b ↔ a = b := by
  constructor
  · intro h
    unfold dq at h
    simp only [PyData.tuple.injEq, List.cons.injEq, PyData.int.injEq, and_true] at h
    exact Rat.ext h.1 (by omega)
  · rintro rfl
    rfl
theorem _root_.QM.RB.n {m : Nat} {q : Rat} (h : RB m q) : B m q.num := h.1
theorem _root_.QM.RB.d {m : Nat} {q : Rat} (h : RB m q) : B m (q.den : Int) := h.2
theorem okq {m : Nat} {q : Rat} (h : RB m q) (k : m ≤ 1900) : okD (dq q) = true := by
  have h1 := B.log (RB.n h) k
  have h2 := B.log (RB.d h) k
  unfold dq
  rw [okD, okAll, okAll, okAll, okD, okD]
  rw [decide_eq_true h1, decide_eq_true h2]
  rfl
def spCut (K : PySem.W.Frag) : Sp := fun vs H Q _ => ∃ n d : Int, vs = [.int n, .int d] ∧ d ≠ 0 ∧ B 8200 n ∧ B 8200 d ∧ ∀ t, H t = none → Q (.ref t) (upd H t (.tup (fq (Rat.divInt n d))))
def spBin (ok : Rat → Rat → Prop) (op : Rat → Rat → Rat) (K : PySem.W.Frag) : Sp := fun vs H Q _ => ∃ (f g : Addr) (a b : Rat), vs = [.ref f, .ref g] ∧ SqT K H f (fq a) ∧ SqT K H g (fq b) ∧ RB 4000 a ∧ RB 4000 b ∧ ok a b ∧ ∀ t, H t = none → Q (.ref t) (upd H t (.tup (fq (op a b))))
/-- a list of fractions -/
def FrL (K : PySem.W.Frag) (H : Hp) (m : Nat) (ps : List (Addr × Rat)) : Prop := ∀ p ∈ ps, SqT K H p.1 (fq p.2) ∧ RB m p.2
def spSum (op : Rat → Rat → Rat) (e : Rat) (K : PySem.W.Frag) : Sp := fun vs H Q _ => ∃ (l : Addr) (ps : List (Addr × Rat)) (m : Nat), vs = [.ref l] ∧ SqL K H l (ps.map fun p => .ref p.1) ∧ FrL K H m ps ∧ ps.length * (m + 1) ≤ 3900 ∧ ∀ H' t, Same H H' → H t = none → H' t = some (.tup (fq (ps.foldl (fun x p => op x p.2) e))) → RB (ps.length * (m + 1) + 1) (ps.foldl (fun x p => op x p.2) e) → Q (.ref t) H'
/-- a list that is being made of the fractions of ints -/
def FrD (H : Hp) (D : Addr) (ns : List Int) (i : Nat) : Prop := ∃ L : List Addr, H D = some (.lst (L.map V.ref)) ∧ L.length = i ∧ ∀ (j : Nat) (p : Addr), L[j]? = some p → ∃ n : Int, ns[j]? = some n ∧ H p = some (.tup (fq (n : Rat)))
theorem FrD.new {H : Hp} {D : Addr} {ns : List Int} : FrD (upd H D (.lst [])) D ns 0 := ⟨[], upd_same, rfl, fun j p h => by simp at h⟩
theorem FrD.push {H : Hp} {D t : Addr} {ns : List Int} {i : Nat} {n : Int} (h : FrD H D ns i) (hi : ns[i]? = some n) (nt : H t = none) (hl : i < 1000) :
    ∃ acc, (upd H t (.tup (fq (n : Rat)))) D = some (.lst acc) ∧ acc.length < sizeLine ∧ FrD (upd (upd H t (.tup (fq (n : Rat)))) D (.lst (acc ++ [.ref t]))) D ns (i + 1) := by
  obtain ⟨L, h1, h2, h3⟩ := h
  have hDt : D ≠ t := ne_of_none h1 nt
  refine ⟨L.map V.ref, by rw [upd_ne hDt]; exact h1, by rw [List.length_map]; exact small1000 (by omega), L ++ [t], ?_, by rw [List.length_append, h2]; rfl, fun j p hj => ?_⟩
  · rw [upd_same, List.map_append]
    rfl
  · rcases Nat.lt_or_ge j L.length with z | z
    · rw [List.getElem?_append_left z] at hj
      obtain ⟨m, hm, hp⟩ := h3 j p hj
      refine ⟨m, hm, ?_⟩
      have hpD : p ≠ D := ne_of hp h1 (by intro z; cases z)
      rw [upd_ne hpD, upd_ne (ne_of_none hp nt)]
      exact hp
    · rw [List.getElem?_append_right z] at hj
      have e : j - L.length = 0 := by
        rcases Nat.eq_zero_or_pos (j - L.length) with q | q
        · exact q
        · rw [List.getElem?_eq_none (by simp; omega)] at hj
          cases hj
      rw [e] at hj
      obtain rfl := Option.some.inj hj
      have ej : j = i := by omega
      refine ⟨n, by rw [ej]; exact hi, ?_⟩
      rw [upd_ne (fun q => hDt q.symm), upd_same]
theorem FrD.five {H : Hp} {D : Addr} {a b c d e : Int} (h : FrD H D [a, b, c, d, e] 5) : ∃ p1 p2 p3 p4 p5, H D = some (.lst [.ref p1, .ref p2, .ref p3, .ref p4, .ref p5]) ∧ H p1 = some (.tup (fq (a : Rat))) ∧ H p2 = some (.tup (fq (b : Rat))) ∧ H p3 = some (.tup (fq (c : Rat))) ∧ H p4 = some (.tup (fq (d : Rat))) ∧ H p5 = some (.tup (fq (e : Rat))) := by
  obtain ⟨L, h1, h2, h3⟩ := h
  match L, h2 with
  | [p1, p2, p3, p4, p5], _ =>
    have g : ∀ (j : Nat) (p : Addr) (n : Int), [p1, p2, p3, p4, p5][j]? = some p → [a, b, c, d, e][j]? = some n → H p = some (.tup (fq (n : Rat))) := fun j p n x y => by
      obtain ⟨m, hm, hp⟩ := h3 j p x
      rw [y] at hm
      obtain rfl := Option.some.inj hm
      exact hp
    exact ⟨p1, p2, p3, p4, p5, h1, g 0 _ _ rfl rfl, g 1 _ _ rfl rfl, g 2 _ _ rfl rfl, g 3 _ _ rfl rfl, g 4 _ _ rfl rfl⟩
/-! what stands of fractions in the heap -/
def FrE (K : PySem.W.Frag) (H : Hp) (es : List (Addr × Rat × Nat)) : Prop := ∀ x ∈ es, SqT K H x.1 (fq x.2.1) ∧ RB x.2.2 x.2.1
section
variable {K : PySem.W.Frag} {H H' : Hp} {es : List (Addr × Rat × Nat)} {p r : Addr} {a b : Rat} {m n : Nat} {Q : VK} {Z : XK}
theorem FrE.nil : FrE K H [] := fun x h => by cases h
theorem FrE.same (h : FrE K H es) (s : Same H H') : FrE K H' es := fun x k => ⟨Same.tup s (h x k).1, (h x k).2⟩
theorem FrE.get (h : FrE K H es) (k : (p, a, m) ∈ es) : SqT K H p (fq a) := (h _ k).1
theorem FrE.rb (h : FrE K H es) (k : (p, a, m) ∈ es) : RB m a := (h _ k).2
theorem FrE.add (h : FrE K H es) (k : SqT K H p (fq a)) (b : RB m a) : FrE K H ((p, a, m) :: es) := fun x z => by
  rcases List.mem_cons.mp z with rfl | z
  · exact ⟨k, b⟩
  · exact h x z
theorem FrE.re (h : FrE K H ((p, a, m) :: es)) (e : a = b) (k : RB n b) : FrE K H ((p, b, n) :: es) := fun x z => by
  subst e
  rcases List.mem_cons.mp z with rfl | z
  · exact ⟨(h _ List.mem_cons_self).1, k⟩
  · exact h x (List.mem_cons_of_mem _ z)
theorem FrE.sub {fs : List (Addr × Rat × Nat)} (h : FrE K H es) (k : ∀ x ∈ fs, x ∈ es) : FrE K H fs := fun x z => h x (k x z)
theorem stepE (E : FrE K H es) {t : Addr} (n : H t = none) {c : Rat} {k : Nat} (hb : RB k c) : ∃ H', upd H t (.tup (fq c)) = H' ∧ Same H H' ∧ FrE K H' ((t, c, k) :: es) :=
  ⟨_, rfl, Same.new n, (E.same (Same.new n)).add (tup_of upd_same) hb⟩
theorem litE (E : FrE K H es) {t : Addr} (n : H t = none) {vs : List V} {c : Rat} {k : Nat} (e : vs = fq c) (hb : RB k c) : ∃ H', upd H t (.tup vs) = H' ∧ Same H H' ∧ FrE K H' ((t, c, k) :: es) := by
  subst e
  exact stepE E n hb
theorem FrL.nil {M : Nat} : FrL K H M [] := fun x h => by cases h
theorem FrL.cons {M : Nat} {ps : List (Addr × Rat)} (E : FrE K H es) (k : (p, a, m) ∈ es) (hm : m ≤ M) (h : FrL K H M ps) : FrL K H M ((p, a) :: ps) := fun x z => by
  rcases List.mem_cons.mp z with rfl | z
  · exact ⟨E.get k, (E.rb k).up hm⟩
  · exact h x z
end
mutual
theorem dp_same {K : PySem.W.Frag} {H H' : Hp} (s : Same H H') : ∀ (d : PyData) (v : V), Dp K H v d → Dp K H' v d
  | .none, _, h => by
    cases h
    exact .non
  | .bool _, _, h => by
    cases h
    exact .bl _
  | .int _, _, h => by
    cases h
    exact .int _
  | .str _, _, h => by
    cases h
    exact .str _
  | .list ds, _, h => by
    cases h with
    | lst h1 h2 => exact .lst (s.seq h1) (dp_sameAll s ds _ h2)
  | .tuple ds, _, h => by
    cases h with
    | tup h1 h2 => exact .tup (Same.tup s h1) (dp_sameAll s ds _ h2)
  | .dict _, _, h => by cases h
theorem dp_sameAll {K : PySem.W.Frag} {H H' : Hp} (s : Same H H') : ∀ (ds : List PyData) (vs : List V), DpAll K H vs ds → DpAll K H' vs ds
  | [], _, h => by
    cases h
    exact .nil
  | d :: ds, _, h => by
    cases h with
    | cons h1 h2 => exact .cons (dp_same s d _ h1) (dp_sameAll s ds _ h2)
end
/-- a list's cell is no tuple's -/
theorem tup_put {K : PySem.W.Frag} {H : Hp} {D p : Addr} {L xs : List V} {o : HO} (hD : H D = some (.lst L)) (e : SqT K H p xs) : SqT K (upd H D o) p xs := by
  rcases e with (e | ⟨z, e⟩) | e
  · refine Or.inl (Or.inl ?_)
    rw [upd_ne (ne_of e hD (by intro z; cases z))]
    exact e
  · refine Or.inl (Or.inr ⟨z, ?_⟩)
    rw [upd_ne (ne_of e hD (by intro z; cases z))]
    exact e
  · exact Or.inr e
mutual
def noL : PyData → Bool
  | .list _ => false
  | .tuple ds => noLAll ds
  | .dict _ => false
  | _ => true
def noLAll : List PyData → Bool
  | [] => true
  | d :: ds => noL d && noLAll ds
end
mutual
theorem dp_put {K : PySem.W.Frag} {H : Hp} {D : Addr} {L : List V} {o : HO} (hD : H D = some (.lst L)) : ∀ (d : PyData) (v : V), noL d = true → Dp K H v d → Dp K (upd H D o) v d
  | .none, _, _, h => by
    cases h
    exact .non
  | .bool _, _, _, h => by
    cases h
    exact .bl _
  | .int _, _, _, h => by
    cases h
    exact .int _
  | .str _, _, _, h => by
    cases h
    exact .str _
  | .list ds, _, n, h => by
    rw [noL] at n
    cases n
  | .tuple ds, _, n, h => by
    rw [noL] at n
    cases h with
    | tup h1 h2 => exact .tup (tup_put hD h1) (dp_putAll hD ds _ n h2)
  | .dict _, _, _, h => by cases h
theorem dp_putAll {K : PySem.W.Frag} {H : Hp} {D : Addr} {L : List V} {o : HO} (hD : H D = some (.lst L)) : ∀ (ds : List PyData) (vs : List V), noLAll ds = true → DpAll K H vs ds → DpAll K (upd H D o) vs ds
  | [], _, _, h => by
    cases h
    exact .nil
  | d :: ds, _, n, h => by
    rw [noLAll, Bool.and_eq_true] at n
    cases h with
    | cons h1 h2 => exact .cons (dp_put hD d _ n.1 h1) (dp_putAll hD ds _ n.2 h2)
end
end Gd
set_option linter.all false
/-! roots: plain Lean -/
namespace QM
theorem dvd_pow' (a : Nat) {k : Nat} (h : k ≠ 0) : a ∣ a ^ k := by
  obtain ⟨j, rfl⟩ := Nat.exists_eq_succ_of_ne_zero h
  rw [Nat.pow_succ]
  exact Nat.dvd_mul_left a _
theorem ipow_le {a b : Int} (ha : 0 ≤ a) (h : a ≤ b) (k : Nat) : a ^ k ≤ b ^ k := by
  have h1 : a.natAbs ^ k ≤ b.natAbs ^ k := Nat.pow_le_pow_left (by omega) k
  rw [← Int.natAbs_pow, ← Int.natAbs_pow] at h1
  have h2 : 0 ≤ a ^ k := Int.pow_nonneg ha
  have h3 : 0 ≤ b ^ k := Int.pow_nonneg (by omega)
  omega
theorem pow_inj {a b k : Nat} (h : k ≠ 0) (e : a ^ k = b ^ k) : a = b := by
  rcases Nat.lt_trichotomy a b with x | x | x
  · have := Nat.pow_lt_pow_left x h
    omega
  · exact x
  · have := Nat.pow_lt_pow_left x h
    omega
theorem ipow_inj {a b : Int} {k : Nat} (h : k ≠ 0) (ha : 0 ≤ a) (hb : 0 ≤ b) (e : a ^ k = b ^ k) : a = b := by
  have h1 : a.natAbs ^ k = b.natAbs ^ k := by rw [← Int.natAbs_pow, ← Int.natAbs_pow, e]
  have := pow_inj h h1
  omega
theorem qpow_inj {a b : Rat} {k : Nat} (h : k ≠ 0) (ha : 0 < a) (hb : 0 < b) (e : a ^ k = b ^ k) : a = b := by
  have h1 := num_pos ha
  have h2 := num_pos hb
  have e1 : a.num ^ k = b.num ^ k := by rw [← npow, ← npow, e]
  have e2 : a.den ^ k = b.den ^ k := by rw [← dpow, ← dpow, e]
  exact Rat.ext (ipow_inj h (by omega) (by omega) e1) (pow_inj h e2)
/-- the root of a fraction from those of its parts -/
theorem rootQ {k : Nat} (hk : k ≠ 0) {q : Rat} {s t : Int} (hs0 : 0 < s) (ht0 : 0 < t) (hs : s ^ k = q.num) (ht : t ^ k = (q.den : Int)) : ∃ r : Rat, 0 < r ∧ r ^ k = q ∧ r.num = s ∧ (r.den : Int) = t := by
  have e1 : s.natAbs ^ k = q.num.natAbs := by rw [← Int.natAbs_pow, hs]
  have e2 : t.natAbs ^ k = q.den := by
    have h : (t ^ k).natAbs = ((q.den : Int)).natAbs := by rw [ht]
    rw [Int.natAbs_pow, Int.natAbs_natCast] at h
    exact h
  have hc : Nat.Coprime s.natAbs t.natAbs := by
    have c : Nat.Coprime (s.natAbs ^ k) (t.natAbs ^ k) := by
      rw [e1, e2]
      exact q.reduced
    have d1 : s.natAbs ∣ s.natAbs ^ k := dvd_pow' _ hk
    have d2 : t.natAbs ∣ t.natAbs ^ k := dvd_pow' _ hk
    exact Nat.Coprime.coprime_dvd_left d1 (Nat.Coprime.coprime_dvd_right d2 c)
  have hz : t.natAbs ≠ 0 := by omega
  refine ⟨⟨s, t.natAbs, hz, hc⟩, ?_, ?_, rfl, by show ((t.natAbs : Nat) : Int) = t; omega⟩
  · have h1 : (0 : Rat) ≤ ⟨s, t.natAbs, hz, hc⟩ := Rat.num_nonneg.mp (by show 0 ≤ s; omega)
    have h2 : (⟨s, t.natAbs, hz, hc⟩ : Rat) ≠ 0 := fun e => by
      have h3 : s = 0 := congrArg Rat.num e
      omega
    exact Rat.lt_of_le_of_ne h1 (fun e => h2 e.symm)
  · refine Rat.ext ?_ ?_
    · rw [npow]
      exact hs
    · rw [dpow]
      exact e2
/-- Newton's step -/
theorem mono {r s : Int} (hr : 0 ≤ r) (hs : 0 ≤ s) (k : Nat) : r * s ^ k + s * r ^ k ≤ r * r ^ k + s * s ^ k := by
  have key : 0 ≤ (r ^ k - s ^ k) * (r - s) := by
    rcases Int.le_total r s with h | h
    · have h1 : r ^ k ≤ s ^ k := ipow_le hr h k
      have := Int.mul_nonneg (show 0 ≤ s ^ k - r ^ k by omega) (show 0 ≤ s - r by omega)
      grind
    · have h1 : s ^ k ≤ r ^ k := ipow_le hs h k
      exact Int.mul_nonneg (by omega) (by omega)
  grind
theorem amgm {r s : Int} (hr : 0 ≤ r) (hs : 0 ≤ s) : ∀ k : Nat, ((k : Int) + 1) * s * r ^ k ≤ (k : Int) * (r * r ^ k) + s * s ^ k
  | 0 => by simp
  | k + 1 => by
    have h1 := amgm hr hs k
    have h2 := mono hr hs (k + 1)
    have h3 := Int.mul_le_mul_of_nonneg_left h1 hr
    rw [Int.pow_succ, Int.pow_succ] at *
    push_cast
    grind
theorem newton_ge {n r s : Int} {k : Nat} (hr : 1 ≤ r) (hs : 0 ≤ s) (h : s ^ (k + 1) ≤ n) : s ≤ ((k : Int) * r + n.fdiv (r ^ k)).fdiv ((k : Int) + 1) := by
  have hp : 0 < r ^ k := Int.pow_pos (by omega)
  have h1 := amgm (show 0 ≤ r by omega) hs k
  rw [Int.pow_succ] at h
  rw [Int.fdiv_eq_ediv_of_nonneg _ (Int.le_of_lt hp), Int.fdiv_eq_ediv_of_nonneg _ (by omega)]
  rw [Int.le_ediv_iff_mul_le (by omega)]
  have h2 : ((k : Int) + 1) * s - k * r ≤ n / r ^ k := by
    rw [Int.le_ediv_iff_mul_le hp]
    grind
  grind
theorem newton_le {n r : Int} {k : Nat} (hr : 1 ≤ r) (h : r ≤ ((k : Int) * r + n.fdiv (r ^ k)).fdiv ((k : Int) + 1)) : r ^ (k + 1) ≤ n := by
  have hp : 0 < r ^ k := Int.pow_pos (by omega)
  rw [Int.fdiv_eq_ediv_of_nonneg _ (Int.le_of_lt hp), Int.fdiv_eq_ediv_of_nonneg _ (by omega)] at h
  rw [Int.le_ediv_iff_mul_le (by omega)] at h
  have h2 : r ≤ n / r ^ k := by grind
  rw [Int.le_ediv_iff_mul_le hp] at h2
  rw [Int.pow_succ]
  grind
theorem start_ge {n s : Int} {k b : Nat} (hs : 0 ≤ s) (hb : n.natAbs < 2 ^ b) (hk : 0 < k) (h : s ^ k ≤ n) : s ≤ 1 * 2 ^ (b / k + 1) := by
  rw [Int.one_mul]
  rcases Int.le_total s (2 ^ (b / k + 1)) with z | z
  · exact z
  · exfalso
    have h1 : ((2 : Int) ^ (b / k + 1)) ^ k ≤ s ^ k := ipow_le (Int.le_of_lt (Int.pow_pos (by decide))) z k
    rw [← Int.pow_mul] at h1
    have h2 : b ≤ (b / k + 1) * k := by
      have := Nat.lt_div_mul_add (a := b) hk
      rw [Nat.add_mul, Nat.one_mul]
      omega
    have h3 : (2 : Nat) ^ b ≤ 2 ^ ((b / k + 1) * k) := Nat.pow_le_pow_right (by decide) h2
    have h4 : ((2 ^ b : Nat) : Int) ≤ ((2 ^ ((b / k + 1) * k) : Nat) : Int) := Int.ofNat_le.mpr h3
    rw [Int.natCast_pow, Int.natCast_pow] at h4
    have h5 : ((n.natAbs : Nat) : Int) < ((2 ^ b : Nat) : Int) := Int.ofNat_lt.mpr hb
    rw [Int.natCast_pow] at h5
    have e2 : ((2 : Nat) : Int) = 2 := rfl
    rw [e2] at h4 h5
    omega
theorem small_root {n s : Int} {k : Nat} (hs : 0 ≤ s) (hk : 1 ≤ k) (h : s ^ k ≤ n) : s ≤ n := by
  have h1 := le_npow s.natAbs hk
  have h2 : (s ^ k).natAbs = s.natAbs ^ k := Int.natAbs_pow s k
  have h3 : 0 ≤ s ^ k := Int.pow_nonneg hs
  omega
theorem pow01 {n : Int} (h0 : 0 ≤ n) (h2 : n < 2) {k : Nat} (hk : 1 ≤ k) : n ^ k ≤ n := by
  obtain ⟨j, rfl⟩ : ∃ j, k = j + 1 := ⟨k - 1, by omega⟩
  have e : n = 0 ∨ n = 1 := by omega
  rcases e with rfl | rfl
  · rw [Int.pow_succ, Int.mul_zero]
    exact Int.le_refl _
  · rw [Int.one_pow]
    exact Int.le_refl _
/-- the scale between two pairs -/
def U (c4 c6 e4 e6 : Int) (u : Rat) : Prop := 0 < u ∧ u ^ 4 * (e4 : Rat) = (c4 : Rat) ∧ u ^ 6 * (e6 : Rat) = (c6 : Rat)
theorem cz {a : Int} : (a : Rat) = 0 ↔ a = 0 := by
  constructor
  · intro h
    exact_mod_cast h
  · rintro rfl
    rfl
theorem pp {u : Rat} (h : 0 < u) (k : Nat) : u ^ k ≠ 0 := fun e => by
  have h1 := Rat.pow_pos (n := k) h
  rw [e] at h1
  exact absurd h1 (by decide)
theorem U.z4 {c4 c6 e4 e6 : Int} {u : Rat} (h : U c4 c6 e4 e6 u) : c4 = 0 ↔ e4 = 0 := by
  obtain ⟨h0, h1, h2⟩ := h
  have := pp h0 4
  rw [← cz, ← cz (a := e4), ← h1]
  grind
theorem U.z6 {c4 c6 e4 e6 : Int} {u : Rat} (h : U c4 c6 e4 e6 u) : c6 = 0 ↔ e6 = 0 := by
  obtain ⟨h0, h1, h2⟩ := h
  have := pp h0 6
  rw [← cz, ← cz (a := e6), ← h2]
  grind
theorem U.uniq {c4 c6 e4 e6 : Int} {u v : Rat} (z : e4 ≠ 0 ∨ e6 ≠ 0) (h : U c4 c6 e4 e6 u) (k : U c4 c6 e4 e6 v) : u = v := by
  obtain ⟨h0, h1, h2⟩ := h
  obtain ⟨k0, k1, k2⟩ := k
  rcases z with z | z
  · have z' : (e4 : Rat) ≠ 0 := fun e => z (cz.mp e)
    exact qpow_inj (k := 4) (by decide) h0 k0 (by grind)
  · have z' : (e6 : Rat) ≠ 0 := fun e => z (cz.mp e)
    exact qpow_inj (k := 6) (by decide) h0 k0 (by grind)
theorem U.p4 {c4 c6 e4 e6 : Int} {u : Rat} (z : e4 ≠ 0) (h : U c4 c6 e4 e6 u) : u ^ 4 = Rat.divInt c4 e4 := by
  obtain ⟨h0, h1, h2⟩ := h
  have z' : (e4 : Rat) ≠ 0 := fun e => z (cz.mp e)
  rw [Rat.divInt_eq_div]
  grind
theorem U.p6 {c4 c6 e4 e6 : Int} {u : Rat} (z : e6 ≠ 0) (h : U c4 c6 e4 e6 u) : u ^ 6 = Rat.divInt c6 e6 := by
  obtain ⟨h0, h1, h2⟩ := h
  have z' : (e6 : Rat) ≠ 0 := fun e => z (cz.mp e)
  rw [Rat.divInt_eq_div]
  grind
theorem U.p2 {c4 c6 e4 e6 : Int} {u : Rat} (z4 : c4 ≠ 0) (z6 : e6 ≠ 0) (h : U c4 c6 e4 e6 u) : u ^ 2 = Rat.divInt (c6 * e4) (e6 * c4) := by
  obtain ⟨h0, h1, h2⟩ := h
  have z6' : (e6 : Rat) ≠ 0 := fun e => z6 (cz.mp e)
  have z4' : (c4 : Rat) ≠ 0 := fun e => z4 (cz.mp e)
  have := pp h0 4
  rw [Rat.divInt_eq_div, Rat.intCast_mul, Rat.intCast_mul]
  have e : (c6 : Rat) * e4 = u ^ 2 * (e6 * c4) := by
    rw [← h1, ← h2]
    grind
  grind
theorem U.of4 {c4 e4 : Int} {u : Rat} (z : e4 ≠ 0) (h0 : 0 < u) (h : u ^ 4 = Rat.divInt c4 e4) : U c4 0 e4 0 u := by
  have z' : (e4 : Rat) ≠ 0 := fun e => z (cz.mp e)
  rw [Rat.divInt_eq_div] at h
  refine ⟨h0, by grind, by grind⟩
theorem U.of6 {c6 e6 : Int} {u : Rat} (z : e6 ≠ 0) (h0 : 0 < u) (h : u ^ 6 = Rat.divInt c6 e6) : U 0 c6 0 e6 u := by
  have z' : (e6 : Rat) ≠ 0 := fun e => z (cz.mp e)
  rw [Rat.divInt_eq_div] at h
  refine ⟨h0, by grind, by grind⟩
theorem U.of2 {c4 c6 e4 e6 : Int} {u : Rat} (z4 : c4 ≠ 0) (y4 : e4 ≠ 0) (z6 : e6 ≠ 0) (h0 : 0 < u) (h : u ^ 2 = Rat.divInt (c6 * e4) (e6 * c4)) : U c4 c6 e4 e6 u ↔ (u.num * u.num) * (u.num * u.num) * e4 = (u.den * u.den) * (u.den * u.den) * c4 := by
  have z6' : (e6 : Rat) ≠ 0 := fun e => z6 (cz.mp e)
  have z4' : (c4 : Rat) ≠ 0 := fun e => z4 (cz.mp e)
  have y4' : (e4 : Rat) ≠ 0 := fun e => y4 (cz.mp e)
  have hd := denR u
  have hu := as_div u
  rw [Rat.divInt_eq_div, Rat.intCast_mul, Rat.intCast_mul] at h
  have k : u ^ 4 * (e4 : Rat) = c4 ↔ (u.num * u.num) * (u.num * u.num) * e4 = ((u.den : Int) * u.den) * (u.den * u.den) * c4 := by
    rw [← Rat.intCast_inj]
    simp only [Rat.intCast_mul]
    constructor
    · intro e
      grind
    · intro e
      grind
  constructor
  · rintro ⟨_, h1, _⟩
    exact k.mp h1
  · intro e
    have h1 := k.mpr e
    refine ⟨h0, h1, ?_⟩
    have h3 : u ^ 6 = u ^ 4 * u ^ 2 := by grind
    have h5 : (e6 : Rat) * c4 ≠ 0 := fun e => by
      rcases Rat.mul_eq_zero.mp e with e | e
      · exact z6' e
      · exact z4' e
    have h6 : u ^ 2 * ((e6 : Rat) * c4) = c6 * e4 := by
      rw [h]
      grind
    have h7 : u ^ 6 * e6 * c4 = c6 * c4 := by
      rw [h3]
      have : u ^ 4 * u ^ 2 * e6 * c4 = u ^ 4 * (u ^ 2 * (e6 * c4)) := by grind
      rw [this, h6, ← h1]
      grind
    grind
theorem div_ne {n d : Int} (h : n ≠ 0) (k : d ≠ 0) : Rat.divInt n d ≠ 0 := fun e => by
  have hn : (n : Rat) ≠ 0 := fun e => h (cz.mp e)
  have hd : (d : Rat) ≠ 0 := fun e => k (cz.mp e)
  rw [Rat.divInt_eq_div] at e
  grind
theorem qpos {u : Rat} (h : 0 < u) (k : Nat) : 0 < u ^ k := Rat.pow_pos h
theorem U.pos6 {c4 c6 e4 e6 : Int} {u : Rat} (z : e6 ≠ 0) (h : U c4 c6 e4 e6 u) : 0 < (Rat.divInt c6 e6).num := by
  rw [← U.p6 z h]
  exact num_pos (qpos h.1 6)
theorem U.pos4 {c4 c6 e4 e6 : Int} {u : Rat} (z : e4 ≠ 0) (h : U c4 c6 e4 e6 u) : 0 < c4 * e4 := by
  have h1 : 0 < (Rat.divInt c4 e4).num := by
    rw [← U.p4 z h]
    exact num_pos (qpos h.1 4)
  rw [Rat.num_divInt] at h1
  have h2 : 0 < e4.sign * c4 := by
    have hg : (0 : Int) < ((Int.gcd e4 c4 : Nat) : Int) := by
      have := Int.gcd_pos_of_ne_zero_left c4 z
      omega
    have h3 := (Int.le_ediv_iff_mul_le (a := 1) (b := e4.sign * c4) hg).mp (by omega)
    omega
  rcases Int.lt_trichotomy e4 0 with y | y | y
  · rw [Int.sign_eq_neg_one_of_neg y] at h2
    exact Int.mul_pos_of_neg_of_neg (by omega) y
  · exact absurd y z
  · rw [Int.sign_eq_one_of_pos y] at h2
    exact Int.mul_pos (by omega) y
theorem U.sq4 {c4 c6 e4 e6 : Int} {u r : Rat} (z : e4 ≠ 0) (h : U c4 c6 e4 e6 u) (r0 : 0 < r) (re : r ^ 2 = Rat.divInt c4 e4) : u ^ 2 = r := by
  refine qpow_inj (k := 2) (by decide) (qpos h.1 2) r0 ?_
  rw [re, ← U.p4 z h]
  grind
theorem U.sq4' {c4 c6 e4 e6 : Int} {u : Rat} (z : e4 ≠ 0) (h : U c4 c6 e4 e6 u) : (u ^ 2) ^ 2 = Rat.divInt c4 e4 := by
  rw [← U.p4 z h]
  grind
theorem U.cb6 {c4 c6 e4 e6 : Int} {u r : Rat} (z : e6 ≠ 0) (h : U c4 c6 e4 e6 u) (r0 : 0 < r) (re : r ^ 3 = Rat.divInt c6 e6) : u ^ 2 = r := by
  refine qpow_inj (k := 3) (by decide) (qpos h.1 2) r0 ?_
  rw [re, ← U.p6 z h]
  grind
theorem U.cb6' {c4 c6 e4 e6 : Int} {u : Rat} (z : e6 ≠ 0) (h : U c4 c6 e4 e6 u) : (u ^ 2) ^ 3 = Rat.divInt c6 e6 := by
  rw [← U.p6 z h]
  grind
theorem U.iff {c4 c6 e4 e6 : Int} {u : Rat} (h : 0 < u) : U c4 c6 e4 e6 u ↔ (e6 : Rat) * u ^ 6 = (c6 : Rat) ∧ (e4 : Rat) * u ^ 4 = (c4 : Rat) := by
  unfold U
  constructor
  · rintro ⟨_, h1, h2⟩
    exact ⟨by grind, by grind⟩
  · rintro ⟨h1, h2⟩
    exact ⟨h, by grind, by grind⟩
end QM
set_option Elab.async false
set_option linter.all false
set_option maxRecDepth 100000
namespace L2
open PySem PySem.Spec PyProof.Rows
section
variable {X : Cx}
def rIsqrt : List V → Hp → VK → Prop := fun vs H Q => ∃ a : Int, vs = [.int a] ∧ 0 ≤ a ∧ a.natAbs < 2 ^ 4000 ∧ Q (.int ((Float64.isqrt a.toNat : Nat) : Int)) H
theorem isq_int1 {i : Int} {us : List Value} (r : Vals [V.int i] us) : ∃ t, us = [Value.int i t] := by
  obtain ⟨t, u, h⟩ := Vals.int2 (i := i) (j := i) (us := us ++ us) (by
    cases r with
    | cons a b => cases b; exact .cons a (.cons a .nil))
  match us, h with
  | [_], h => exact ⟨t, by simp at h; rw [h.1]⟩
  | [], h => simp at h
  | _ :: _ :: _, h => simp at h
theorem cr_isqrt : CallR X (.builtin "math.isqrt") rIsqrt := by
  intro pins s σ H vs us Q I r h
  obtain ⟨a, rfl, h0, h1, q⟩ := h
  obtain ⟨t, rfl⟩ := isq_int1 r
  have hl : a.toNat.log2 ≤ 3999 := PySem.W.mg_log (k := 3999) (by rw [show a.toNat = a.natAbs by omega]; exact h1)
  exact call_function_meets PySem.W.MGF.kind_isqrt PySem.W.MGF.plain_isqrt PySem.W.MGF.entry_isqrt (PySem.W.MGF.args_isqrt _) (PySem.W.mg_run_isqrt a t (by omega) (by omega) (by omega)).meets ⟨.int _, H, I.tok _, ⟨_, rfl⟩, q⟩
end
end L2
namespace QM
/-- the whole root of a number -/
theorem isqrt_is {n : Int} (h : 0 ≤ n) : ((PySem.Float64.isqrt n.toNat : Nat) : Int) * ((PySem.Float64.isqrt n.toNat : Nat) : Int) ≤ n ∧ ∀ s : Int, 0 ≤ s → s * s ≤ n → s ≤ ((PySem.Float64.isqrt n.toNat : Nat) : Int) := by
  obtain ⟨a, b⟩ := PySem.Float64.isqrt_spec n.toNat
  generalize PySem.Float64.isqrt n.toNat = q at a b
  have e : ((n.toNat : Nat) : Int) = n := Int.toNat_of_nonneg h
  have a' : (q : Int) * q ≤ n := by rw [← e]; exact_mod_cast a
  have b' : n < ((q : Int) + 1) * (q + 1) := by rw [← e]; exact_mod_cast b
  refine ⟨a', fun s hs h1 => ?_⟩
  rcases (show (q : Int) < s ∨ s ≤ q by omega) with z | z
  · exfalso
    have := Int.mul_le_mul (show (q : Int) + 1 ≤ s by omega) (show (q : Int) + 1 ≤ s by omega) (by omega) hs
    omega
  · exact z
end QM
set_option linter.all false
/-! points of y y = x x x + a x x + b x + c over the fractions: plain Lean -/
namespace EcM
open QM
structure Ec where
  a : Int
  b : Int
  c : Int
abbrev Pt := Option (Rat × Rat)
def Ec.f (e : Ec) (x : Rat) : Rat := x * x * x + (e.a : Rat) * x * x + (e.b : Rat) * x + (e.c : Rat)
def On (e : Ec) : Pt → Prop
  | none => True
  | some (x, y) => y * y = e.f x
def neg : Pt → Pt
  | none => none
  | some (x, y) => some (x, -y)
/-- the slope -/
def slo (e : Ec) (x y u v : Rat) : Rat := if x = u ∧ y = v then (3 * (x * x) + (((2 * e.a : Int) : Rat) * x + (e.b : Rat))) / (2 * y) else (v - y) / (u - x)
def px (e : Ec) (k x u : Rat) : Rat := k * k - (e.a : Rat) - x - u
def sum (e : Ec) : Pt → Pt → Pt
  | none, Q => Q
  | some P, none => some P
  | some (x, y), some (u, v) => if x = u ∧ -y = v then none else
      some (px e (slo e x y u v) x u, -(y + slo e x y u v * (px e (slo e x y u v) x u - x)))
theorem On.neg {e : Ec} {P : Pt} (h : On e P) : On e (neg P) := by
  match P, h with
  | none, _ => trivial
  | some (x, y), h =>
    show -y * -y = e.f x
    have h' : y * y = e.f x := h
    grind
theorem same_x {e : Ec} {x y v : Rat} (h : y * y = e.f x) (k : v * v = e.f x) : y = v ∨ -y = v := by
  have h1 : (y - v) * (y + v) = 0 := by grind
  rcases Rat.mul_eq_zero.mp h1 with z | z
  · left; grind
  · right; grind
theorem sl_dbl {e : Ec} {x y : Rat} : slo e x y x y = (3 * (x * x) + (((2 * e.a : Int) : Rat) * x + (e.b : Rat))) / (2 * y) := if_pos ⟨rfl, rfl⟩
theorem sl_two {e : Ec} {x y u v : Rat} (h : ¬ (x = u ∧ y = v)) : slo e x y u v = (v - y) / (u - x) := if_neg h
/-- what the slope is, without a fraction -/
theorem slope_is {e : Ec} {x y u v : Rat} (h : y * y = e.f x) (k : v * v = e.f u) (n : ¬ (x = u ∧ -y = v)) :
    (x ≠ u ∧ slo e x y u v * (u - x) = v - y) ∨ (x = u ∧ y = v ∧ y ≠ 0 ∧ slo e x y u v * (2 * y) = 3 * (x * x) + 2 * (e.a : Rat) * x + (e.b : Rat)) := by
  by_cases hx : x = u
  · subst hx
    right
    have hy : y = v := by
      rcases same_x h k with z | z
      · exact z
      · exact absurd ⟨rfl, z⟩ n
    subst hy
    have y0 : y ≠ 0 := fun z => n ⟨rfl, by rw [z]; rfl⟩
    refine ⟨rfl, rfl, y0, ?_⟩
    rw [sl_dbl]
    have e2 : ((2 * e.a : Int) : Rat) = 2 * (e.a : Rat) := by rw [Rat.intCast_mul]; rfl
    rw [e2]
    have h2 : (2 * y : Rat) ≠ 0 := by grind
    rw [Rat.div_mul_cancel h2]
    grind
  · left
    refine ⟨hx, ?_⟩
    rw [sl_two (fun z => hx z.1)]
    have h2 : (u - x : Rat) ≠ 0 := by grind
    rw [Rat.div_mul_cancel h2]
theorem on_two {a b c x y u v k : Rat} (h : y * y = x * x * x + a * x * x + b * x + c) (h2 : v * v = u * u * u + a * u * u + b * u + c) (hx : x ≠ u) (hk : k * (u - x) = v - y) :
    (y + k * ((k * k - a - x - u) - x)) * (y + k * ((k * k - a - x - u) - x)) = (k * k - a - x - u) * (k * k - a - x - u) * (k * k - a - x - u) + a * (k * k - a - x - u) * (k * k - a - x - u) + b * (k * k - a - x - u) + c := by
  have h0 : (u - x : Rat) ≠ 0 := by grind
  have e1 : k * (v + y) = u * u + u * x + x * x + a * (u + x) + b := by
    have : (u - x) * (k * (v + y) - (u * u + u * x + x * x + a * (u + x) + b)) = 0 := by grind
    rcases Rat.mul_eq_zero.mp this with z | z
    · exact absurd z h0
    · grind
  have e2 : v = y + k * (u - x) := by grind
  subst e2
  grind
theorem on_dbl {a b c x y k : Rat} (h : y * y = x * x * x + a * x * x + b * x + c) (hk : k * (2 * y) = 3 * (x * x) + 2 * a * x + b) :
    (y + k * ((k * k - a - x - x) - x)) * (y + k * ((k * k - a - x - x) - x)) = (k * k - a - x - x) * (k * k - a - x - x) * (k * k - a - x - x) + a * (k * k - a - x - x) * (k * k - a - x - x) + b * (k * k - a - x - x) + c := by
  grind
theorem On.sum {e : Ec} {P Q : Pt} (h : On e P) (k : On e Q) : On e (sum e P Q) := by
  match P, Q, h, k with
  | none, Q, _, k => exact k
  | some P, none, h, _ => exact h
  | some (x, y), some (u, v), h, k =>
    show On e (if x = u ∧ -y = v then none else _)
    split
    · trivial
    · rename_i n
      show -(y + _) * -(y + _) = _
      have h' : y * y = x * x * x + (e.a : Rat) * x * x + (e.b : Rat) * x + (e.c : Rat) := h
      have k' : v * v = u * u * u + (e.a : Rat) * u * u + (e.b : Rat) * u + (e.c : Rat) := k
      rcases slope_is h k n with ⟨hx, hk⟩ | ⟨rfl, rfl, y0, hk⟩
      · have := on_two h' k' hx hk
        unfold px Ec.f
        rw [Rat.neg_mul, Rat.mul_neg, Rat.neg_neg]
        exact this
      · have := on_dbl h' hk
        unfold px Ec.f
        rw [Rat.neg_mul, Rat.mul_neg, Rat.neg_neg]
        exact this
end EcM
set_option linter.all false
/-! sizes of points: plain Lean -/
namespace EcM
open QM
/-- below 2 ^ n -/
def Z (n : Nat) (x : Int) : Prop := x.natAbs < 2 ^ n
theorem Z.up {m n : Nat} {x : Int} (h : Z m x) (k : m ≤ n) : Z n x := Nat.lt_of_lt_of_le h (Nat.pow_le_pow_right (by decide) k)
theorem Z.mul {m n : Nat} {x y : Int} (h : Z m x) (k : Z n y) : Z (m + n) (x * y) := by
  unfold Z
  rw [Int.natAbs_mul]
  exact pmul h k
theorem Z.add {m n : Nat} {x y : Int} (h : Z m x) (k : Z m y) (e : m + 1 ≤ n) : Z n (x + y) := by
  refine Z.up (m := m + 1) ?_ e
  unfold Z at *
  rw [Nat.pow_succ]
  omega
theorem Z.sub {m n : Nat} {x y : Int} (h : Z m x) (k : Z m y) (e : m + 1 ≤ n) : Z n (x - y) := by
  refine Z.up (m := m + 1) ?_ e
  unfold Z at *
  rw [Nat.pow_succ]
  omega
theorem Z.lit {n : Nat} {x : Int} (h : x.natAbs < 2 ^ n) : Z n x := h
structure Ec.Bd (e : Ec) (g : Nat) : Prop where
  g2 : 2 ≤ g
  a : Z g e.a
  b : Z g e.b
  c : Z g e.c
def HB (h : Nat) : Pt → Prop
  | none => True
  | some (x, _) => RB h x
theorem HB.up {h k : Nat} {P : Pt} (z : HB h P) (l : h ≤ k) : HB k P := by
  match P, z with
  | none, _ => trivial
  | some (x, y), z => exact RB.up z l
theorem den_one {q : Rat} {n : Int} (h : q * q = (n : Rat)) : q.den = 1 := by
  have e : (q ^ 2).den = q.den ^ 2 := dpow q 2
  have e2 : q ^ 2 = (n : Rat) := by rw [← h, Rat.pow_succ, Rat.pow_succ, Rat.pow_zero, Rat.one_mul]
  rw [e2, Rat.den_intCast] at e
  have h1 : q.den ≤ q.den ^ 2 := le_npow _ (by decide)
  have := q.den_nz
  omega
theorem num_of {q : Rat} (h : q.den = 1) : q = ((q.num : Int) : Rat) := Rat.ext (by rw [Rat.num_intCast]) (by rw [Rat.den_intCast]; exact h)
theorem y_eq {a b c x y A D : Rat} (hx : x * D = A) (h : y * y = x * x * x + a * x * x + b * x + c) : (y * (D * D)) * (y * (D * D)) = (A * A * A + a * (A * A) * D + b * A * (D * D) + c * (D * D * D)) * D := by
  subst hx
  grind
theorem x_num (x : Rat) : x * ((x.den : Int) : Rat) = (x.num : Rat) := by
  have h := as_div x
  have h0 := denR x
  have : (x.num : Rat) / ((x.den : Int) : Rat) * ((x.den : Int) : Rat) = (x.num : Rat) := Rat.div_mul_cancel h0
  rw [← h] at this
  exact this
/-- y's number over the square of x's lower one -/
theorem y_is {e : Ec} {x y : Rat} {h g : Nat} (hc : y * y = e.f x) (hB : RB h x) (k : e.Bd g) : ∃ Y : Int, y * (((x.den : Int) : Rat) * ((x.den : Int) : Rat)) = (Y : Rat) ∧ Z (2 * h + g) Y := by
  obtain ⟨g2, ka, kb, kc⟩ := k
  have ex := x_num x
  have e1 := y_eq ex (show y * y = x * x * x + (e.a : Rat) * x * x + (e.b : Rat) * x + (e.c : Rat) from hc)
  obtain ⟨A, hA⟩ : ∃ A, x.num = A := ⟨_, rfl⟩
  obtain ⟨D, hD⟩ : ∃ D, (x.den : Int) = D := ⟨_, rfl⟩
  have zA : Z h A := hA ▸ hB.1
  have zD : Z h D := hD ▸ hB.2
  rw [hA, hD] at e1
  rw [hD]
  have e2 : ((A : Rat) * A * A + e.a * (A * A) * D + e.b * A * (D * D) + e.c * (D * D * D)) * D = (((A * A * A + e.a * (A * A) * D + e.b * A * (D * D) + e.c * (D * D * D)) * D : Int) : Rat) := by
    push_cast
    rfl
  rw [e2] at e1
  have d1 := den_one e1
  have n1 := num_of d1
  refine ⟨_, n1, ?_⟩
  obtain ⟨q, hq⟩ : ∃ q, y * ((D : Rat) * D) = q := ⟨_, rfl⟩
  rw [hq] at e1 d1 n1 ⊢
  have e3 : q.num * q.num = (A * A * A + e.a * (A * A) * D + e.b * A * (D * D) + e.c * (D * D * D)) * D := by
    rw [n1, ← Rat.intCast_mul] at e1
    exact_mod_cast e1
  have b0 : Z (4 * h + g + 2) (q.num * q.num) := by
    rw [e3, show (A * A * A + e.a * (A * A) * D + e.b * A * (D * D) + e.c * (D * D * D)) * D = (A * A * A * D + e.a * (A * A) * D * D) + (e.b * A * (D * D) * D + e.c * (D * D * D) * D) by grind]
    have t1 : Z (4 * h + g) (A * A * A * D) := (((zA.mul zA).mul zA).mul zD).up (by omega)
    have t2 : Z (4 * h + g) (e.a * (A * A) * D * D) := (((ka.mul (zA.mul zA)).mul zD).mul zD).up (by omega)
    have t3 : Z (4 * h + g) (e.b * A * (D * D) * D) := (((kb.mul zA).mul (zD.mul zD)).mul zD).up (by omega)
    have t4 : Z (4 * h + g) (e.c * (D * D * D) * D) := ((kc.mul ((zD.mul zD).mul zD)).mul zD).up (by omega)
    exact (t1.add t2 (Nat.le_refl _)).add (t3.add t4 (Nat.le_refl _)) (by omega)
  unfold Z at *
  rw [Int.natAbs_mul] at b0
  rcases Nat.lt_or_ge q.num.natAbs (2 ^ (2 * h + g)) with z | z
  · exact z
  · exfalso
    have h1 := Nat.mul_le_mul z z
    rw [← Nat.pow_add] at h1
    have h2 : 2 ^ (4 * h + g + 2) ≤ 2 ^ (2 * h + g + (2 * h + g)) := Nat.pow_le_pow_right (by decide) (by omega)
    omega
theorem rb_of {q : Rat} {n d : Int} {m : Nat} (e : q * (d : Rat) = (n : Rat)) (h : d ≠ 0) (hn : Z m n) (hd : Z m d) : RB m q := by
  have h0 : (d : Rat) ≠ 0 := fun z => h (by exact_mod_cast z)
  have e2 : q = Rat.divInt n d := by
    rw [Rat.divInt_eq_div, ← e, Rat.mul_div_cancel h0]
  rw [e2]
  exact RB.of h hn hd
theorem y_RB {e : Ec} {x y : Rat} {h g : Nat} (hc : y * y = e.f x) (hB : RB h x) (k : e.Bd g) : RB (2 * h + g) y := by
  obtain ⟨Y, e1, hY⟩ := y_is hc hB k
  have e2 : y * (((x.den : Int) * (x.den : Int) : Int) : Rat) = (Y : Rat) := by
    rw [Rat.intCast_mul]
    exact e1
  have zD : Z h (x.den : Int) := hB.2
  exact rb_of e2 (mul_ne (den_ne x) (den_ne x)) hY ((zD.mul zD).up (by omega))
theorem two_x {a b c x y u v k A D A2 D2 Y Y2 : Rat} (hA : x * D = A) (hA2 : u * D2 = A2) (hY : y * (D * D) = Y) (hY2 : v * (D2 * D2) = Y2) (h : y * y = x * x * x + a * x * x + b * x + c) (h2 : v * v = u * u * u + a * u * u + b * u + c) (hk : k * (u - x) = v - y) :
    (k * k - a - x - u) * ((A * D2 - A2 * D) * (A * D2 - A2 * D)) = ((A * A2 + b * (D * D2)) * (A * D2 + A2 * D) + 2 * a * (A * A2) * (D * D2)) + (2 * c * (D * D2) * (D * D2) - 2 * Y * Y2) := by
  have e : (k * k - a - x - u) * ((u - x) * (u - x)) = (x * u + b) * (x + u) + 2 * a * x * u + 2 * c - 2 * y * v := by
    have e3 : (k * (u - x)) * (k * (u - x)) = (v - y) * (v - y) := by rw [hk]
    grind
  subst hA hA2 hY hY2
  grind
theorem dbl_x {a b c x y k A D : Rat} (hA : x * D = A) (h : y * y = x * x * x + a * x * x + b * x + c) (hk : k * (2 * y) = 3 * (x * x) + 2 * a * x + b) :
    (k * k - a - x - x) * (4 * ((A * A * A + a * (A * A) * D + b * A * (D * D) + c * (D * D * D)) * D)) = (A * A * A * A - 2 * b * (A * A) * (D * D)) + ((b * b - 4 * a * c) * (D * D) * (D * D) - 8 * c * (A * D) * (D * D)) := by
  have e : (k * k - a - x - x) * (4 * (y * y)) = x * x * x * x - 2 * b * (x * x) - 8 * c * x + b * b - 4 * a * c := by
    have e3 : (k * (2 * y)) * (k * (2 * y)) = (3 * (x * x) + 2 * a * x + b) * (3 * (x * x) + 2 * a * x + b) := by rw [hk]
    grind
  subst hA
  have e4 : (x * D * (x * D) * (x * D) + a * (x * D * (x * D)) * D + b * (x * D) * (D * D) + c * (D * D * D)) * D = (y * y) * (D * D * (D * D)) := by
    rw [h]
    grind
  rw [e4]
  grind
theorem sum_HB {e : Ec} {P Q : Pt} {h j g : Nat} (p : On e P) (q : On e Q) (hP : HB h P) (hQ : HB j Q) (k : e.Bd g) : HB (2 * h + 2 * j + 2 * g + 6) (sum e P Q) := by
  match P, Q, p, q, hP, hQ with
  | none, Q, _, _, _, hQ => exact hQ.up (by omega)
  | some P, none, _, _, hP, _ => exact HB.up hP (by omega)
  | some (x, y), some (u, v), p, q, hP, hQ =>
    show HB _ (if x = u ∧ -y = v then none else _)
    split
    · trivial
    rename_i n
    show RB _ (px e (slo e x y u v) x u)
    replace p : y * y = e.f x := p
    replace q : v * v = e.f u := q
    replace hP : RB h x := hP
    replace hQ : RB j u := hQ
    obtain ⟨Y, hY, zY⟩ := y_is p hP k
    obtain ⟨Y2, hY2, zY2⟩ := y_is q hQ k
    have ex := x_num x
    have eu := x_num u
    obtain ⟨g2, ka, kb, kc⟩ := k
    rcases slope_is p q n with ⟨hx, hk⟩ | ⟨rfl, rfl, y0, hk⟩
    · have t := two_x (a := (e.a : Rat)) (b := (e.b : Rat)) (c := (e.c : Rat)) ex eu hY hY2 p q hk
      have nz : x.num * (u.den : Int) - u.num * (x.den : Int) ≠ 0 := by
        intro z
        apply hx
        have z2 : ((x.num * (u.den : Int) - u.num * (x.den : Int) : Int) : Rat) = 0 := by rw [z]; rfl
        rw [Rat.intCast_sub, Rat.intCast_mul, Rat.intCast_mul, ← ex, ← eu] at z2
        have d1 := denR x
        have d2 := denR u
        grind
      obtain ⟨A, hA⟩ : ∃ A, x.num = A := ⟨_, rfl⟩
      obtain ⟨D, hD⟩ : ∃ D, (x.den : Int) = D := ⟨_, rfl⟩
      obtain ⟨A2, hA2⟩ : ∃ A, u.num = A := ⟨_, rfl⟩
      obtain ⟨D2, hD2⟩ : ∃ D, (u.den : Int) = D := ⟨_, rfl⟩
      have zA : Z h A := hA ▸ hP.1
      have zD : Z h D := hD ▸ hP.2
      have zA2 : Z j A2 := hA2 ▸ hQ.1
      have zD2 : Z j D2 := hD2 ▸ hQ.2
      rw [hA, hD, hA2, hD2] at t nz
      refine rb_of (d := (A * D2 - A2 * D) * (A * D2 - A2 * D)) (n := ((A * A2 + e.b * (D * D2)) * (A * D2 + A2 * D) + 2 * e.a * (A * A2) * (D * D2)) + (2 * e.c * (D * D2) * (D * D2) - 2 * Y * Y2)) ?_ (mul_ne nz nz) ?_ ?_
      · show (slo e x y u v * slo e x y u v - (e.a : Rat) - x - u) * _ = _
        push_cast
        exact t
      · have l2 : Z 2 2 := Z.lit (by decide)
        have u1 : Z (h + j + g + 1) (A * A2 + e.b * (D * D2)) := ((zA.mul zA2).up (n := h + j + g) (by omega)).add ((kb.mul (zD.mul zD2)).up (by omega)) (Nat.le_refl _)
        have u2 : Z (h + j + 1) (A * D2 + A2 * D) := (zA.mul zD2).add ((zA2.mul zD).up (by omega)) (Nat.le_refl _)
        have u3 := ((l2.mul ka).mul (zA.mul zA2)).mul (zD.mul zD2)
        have u4 := ((l2.mul kc).mul (zD.mul zD2)).mul (zD.mul zD2)
        have u5 := (l2.mul zY).mul zY2
        have w1 := ((u1.mul u2).up (n := 2 * h + 2 * j + 2 * g + 2) (by omega)).add (u3.up (by omega)) (Nat.le_refl _)
        have w2 := (u4.up (n := 2 * h + 2 * j + 2 * g + 2) (by omega)).sub (u5.up (by omega)) (Nat.le_refl _)
        exact w1.add w2 (by omega)
      · have u1 : Z (h + j + 1) (A * D2 - A2 * D) := (zA.mul zD2).sub ((zA2.mul zD).up (by omega)) (Nat.le_refl _)
        exact (u1.mul u1).up (by omega)
    · have t := dbl_x (a := (e.a : Rat)) (b := (e.b : Rat)) (c := (e.c : Rat)) ex p hk
      have nz : (x.num * x.num * x.num + e.a * (x.num * x.num) * (x.den : Int) + e.b * x.num * ((x.den : Int) * (x.den : Int)) + e.c * ((x.den : Int) * (x.den : Int) * (x.den : Int))) * (x.den : Int) ≠ 0 := by
        intro z
        have z1 := y_eq ex (show y * y = x * x * x + (e.a : Rat) * x * x + (e.b : Rat) * x + (e.c : Rat) from p)
        have z2 : (((x.num * x.num * x.num + e.a * (x.num * x.num) * (x.den : Int) + e.b * x.num * ((x.den : Int) * (x.den : Int)) + e.c * ((x.den : Int) * (x.den : Int) * (x.den : Int))) * (x.den : Int) : Int) : Rat) = 0 := by rw [z]; rfl
        push_cast at z2
        have d1 := denR x
        have z3 : y * (((x.den : Int) : Rat) * ((x.den : Int) : Rat)) ≠ 0 := by
          intro z4
          rcases Rat.mul_eq_zero.mp z4 with z5 | z5
          · exact y0 z5
          · rcases Rat.mul_eq_zero.mp z5 with z6 | z6 <;> exact d1 z6
        have z7 : y * (((x.den : Int) : Rat) * ((x.den : Int) : Rat)) * (y * (((x.den : Int) : Rat) * ((x.den : Int) : Rat))) = 0 := z1.trans z2
        rcases Rat.mul_eq_zero.mp z7 with z8 | z8 <;> exact z3 z8
      obtain ⟨A, hA⟩ : ∃ A, x.num = A := ⟨_, rfl⟩
      obtain ⟨D, hD⟩ : ∃ D, (x.den : Int) = D := ⟨_, rfl⟩
      have zA : Z h A := hA ▸ hP.1
      have zD : Z h D := hD ▸ hP.2
      have zA' : Z j A := hA ▸ hQ.1
      have zD' : Z j D := hD ▸ hQ.2
      rw [hA, hD] at t nz
      refine rb_of (d := 4 * ((A * A * A + e.a * (A * A) * D + e.b * A * (D * D) + e.c * (D * D * D)) * D)) (n := (A * A * A * A - 2 * e.b * (A * A) * (D * D)) + ((e.b * e.b - 4 * e.a * e.c) * (D * D) * (D * D) - 8 * e.c * (A * D) * (D * D))) ?_ (mul_ne (by decide) nz) ?_ ?_
      · show (slo e x y x y * slo e x y x y - (e.a : Rat) - x - x) * _ = _
        push_cast
        exact t
      · have l2 : Z 2 2 := Z.lit (by decide)
        have l4 : Z 3 4 := Z.lit (by decide)
        have l8 : Z 4 8 := Z.lit (by decide)
        have u1 := ((zA.mul zA').mul zA).mul zA'
        have u2 := ((l2.mul kb).mul (zA.mul zA')).mul (zD.mul zD')
        have u3 : Z (2 * g + 4) (e.b * e.b - 4 * e.a * e.c) := ((kb.mul kb).up (n := 2 * g + 3) (by omega)).sub (((l4.mul ka).mul kc).up (by omega)) (Nat.le_refl _)
        have u4 := u3.mul ((zD.mul zD').mul (zD.mul zD'))
        have u5 := (((l8.mul kc).mul (zA.mul zD')).mul (zD.mul zD'))
        have w1 := (u1.up (n := 2 * h + 2 * j + g + 2) (by omega)).sub (u2.up (by omega)) (Nat.le_refl _)
        have w2 := (u4.up (n := 2 * h + 2 * j + 2 * g + 4) (by omega)).sub (u5.up (by omega)) (Nat.le_refl _)
        have w3 := (w1.up (n := 2 * h + 2 * j + 2 * g + 5) (by omega)).add (w2.up (by omega)) (n := 2 * h + 2 * j + 2 * g + 6) (by omega)
        rw [show (A * A * A * A - 2 * e.b * (A * A) * (D * D)) + ((e.b * e.b - 4 * e.a * e.c) * (D * D) * (D * D) - 8 * e.c * (A * D) * (D * D)) = (A * A * A * A - 2 * e.b * (A * A) * (D * D)) + ((e.b * e.b - 4 * e.a * e.c) * ((D * D) * (D * D)) - 8 * e.c * (A * D) * (D * D)) by grind]
        exact w3
      · have t1 : Z (2 * h + 2 * j + g) (A * A * A * D) := (((zA.mul zA').mul zA).mul zD').up (by omega)
        have t2 : Z (2 * h + 2 * j + g) (e.a * (A * A) * D * D) := (((ka.mul (zA.mul zA')).mul zD).mul zD').up (by omega)
        have t3 : Z (2 * h + 2 * j + g) (e.b * A * (D * D) * D) := (((kb.mul zA).mul (zD.mul zD')).mul zD').up (by omega)
        have t4 : Z (2 * h + 2 * j + g) (e.c * (D * D * D) * D) := ((kc.mul ((zD.mul zD').mul zD)).mul zD').up (by omega)
        have t5 := (Z.lit (n := 3) (x := 4) (by decide)).mul ((t1.add t2 (Nat.le_refl _)).add (t3.add t4 (Nat.le_refl _)) (Nat.le_refl _))
        rw [show 4 * ((A * A * A + e.a * (A * A) * D + e.b * A * (D * D) + e.c * (D * D * D)) * D) = 4 * ((A * A * A * D + e.a * (A * A) * D * D) + (e.b * A * (D * D) * D + e.c * (D * D * D) * D)) by grind]
        exact t5.up (by omega)
/-! ### squares -/
theorem sq0 (r : Int) : 0 ≤ r * r := by
  rcases Int.le_total 0 r with h | h
  · exact Int.mul_nonneg h h
  · have := Int.mul_nonneg (show 0 ≤ -r by omega) (show 0 ≤ -r by omega)
    rw [Int.neg_mul_neg] at this
    exact this
/-- the whole root of n, if there is one -/
def SqR (n : Int) : Option Int → Prop
  | some r => 0 ≤ r ∧ r * r = n
  | none => ∀ r : Int, r * r ≠ n
theorem sq_inj {r s : Int} (h : 0 ≤ r) (k : 0 ≤ s) (e : r * r = s * s) : r = s := by
  have e2 : r.natAbs * r.natAbs = s.natAbs * s.natAbs := by rw [← Int.natAbs_mul, ← Int.natAbs_mul, e]
  have := Nat.mul_self_inj.mp e2
  omega
theorem SqR.uniq {n : Int} {o p : Option Int} (h : SqR n o) (k : SqR n p) : o = p := by
  match o, p, h, k with
  | none, none, _, _ => rfl
  | none, some r, h, k => exact absurd k.2 (h r)
  | some r, none, h, k => exact absurd h.2 (k r)
  | some r, some s, h, k => exact congrArg some (sq_inj h.1 k.1 (h.2.trans k.2.symm))
theorem sq_max {n y r : Int} (y0 : 0 ≤ y) (yle : y * y ≤ n) (ymax : ∀ s, 0 ≤ s → s * s ≤ n → s ≤ y) (h : r * r = n) : y * y = n := by
  have h1 : ((r.natAbs : Nat) : Int) * ((r.natAbs : Nat) : Int) = n := by rw [Int.natAbs_mul_self', h]
  have h2 := ymax (r.natAbs : Int) (by omega) (by omega)
  have h3 := Int.mul_le_mul h2 h2 (by omega) y0
  omega
/-- the root of a fraction, if there is one -/
def SqQ (a : Rat) : Option Rat → Prop
  | some r => 0 ≤ r ∧ r * r = a
  | none => ∀ r : Rat, r * r ≠ a
theorem nn_num {r : Rat} (h : 0 ≤ r) : 0 ≤ r.num := Rat.num_nonneg.mpr h
theorem sq_num (r : Rat) : (r * r).num = r.num * r.num ∧ (((r * r).den : Nat) : Int) = (r.den : Int) * (r.den : Int) := by
  have e : r * r = r ^ 2 := by rw [Rat.pow_succ, Rat.pow_succ, Rat.pow_zero, Rat.one_mul]
  rw [e, npow, dpow]
  refine ⟨by rw [Int.pow_succ, Int.pow_succ, Int.pow_zero, Int.one_mul], ?_⟩
  rw [Nat.pow_succ, Nat.pow_succ, Nat.pow_zero, Nat.one_mul]
  exact_mod_cast rfl
theorem SqQ.uniq {n : Rat} {o p : Option Rat} (h : SqQ n o) (k : SqQ n p) : o = p := by
  match o, p, h, k with
  | none, none, _, _ => rfl
  | none, some r, h, k => exact absurd k.2 (h r)
  | some r, none, h, k => exact absurd h.2 (k r)
  | some r, some s, h, k =>
    have e := h.2.trans k.2.symm
    obtain ⟨a1, a2⟩ := sq_num r
    obtain ⟨b1, b2⟩ := sq_num s
    rw [e] at a1 a2
    have e1 := sq_inj (nn_num h.1) (nn_num k.1) (a1.symm.trans b1)
    have e2 := sq_inj (r := (r.den : Int)) (s := (s.den : Int)) (by omega) (by omega) (a2.symm.trans b2)
    exact congrArg some (Rat.ext e1 (by omega))
theorem SqQ.none1 {a : Rat} (h : SqR a.num none) : SqQ a none := fun r e => h r.num (by rw [← (sq_num r).1, e])
theorem SqQ.none2 {a : Rat} (h : SqR (a.den : Int) none) : SqQ a none := fun r e => h (r.den : Int) (by rw [← (sq_num r).2, e])
/-- out of the roots of its numbers -/
theorem SqQ.of {a : Rat} {n d : Int} (h : SqR a.num (some n)) (k : SqR (a.den : Int) (some d)) : ∃ r : Rat, SqQ a (some r) ∧ r.num = n ∧ (r.den : Int) = d := by
  obtain ⟨h1, h2⟩ := h
  obtain ⟨k1, k2⟩ := k
  have d0 : d ≠ 0 := fun z => den_ne a (by rw [← k2, z]; rfl)
  have c : Nat.Coprime n.natAbs d.natAbs := by
    have e1 : n.natAbs * n.natAbs = a.num.natAbs := by rw [← Int.natAbs_mul, h2]
    have e2 : d.natAbs * d.natAbs = a.den := by
      have := congrArg Int.natAbs k2
      rw [Int.natAbs_mul, Int.natAbs_natCast] at this
      exact this
    have c0 : Nat.Coprime (n.natAbs * n.natAbs) (d.natAbs * d.natAbs) := by
      rw [e1, e2]
      exact a.reduced
    exact Nat.Coprime.coprime_dvd_left (Nat.dvd_mul_left _ _) (Nat.Coprime.coprime_dvd_right (Nat.dvd_mul_left _ _) c0)
  refine ⟨⟨n, d.natAbs, by omega, c⟩, ⟨Rat.num_nonneg.mp h1, ?_⟩, rfl, by show ((d.natAbs : Nat) : Int) = d; omega⟩
  obtain ⟨a1, a2⟩ := sq_num (⟨n, d.natAbs, by omega, c⟩ : Rat)
  refine Rat.ext (a1.trans h2) ?_
  have e3 : ((d.natAbs : Nat) : Int) * ((d.natAbs : Nat) : Int) = d * d := by rw [Int.natAbs_mul_self']
  have : (((⟨n, d.natAbs, by omega, c⟩ : Rat) * ⟨n, d.natAbs, by omega, c⟩).den : Int) = (a.den : Int) := a2.trans (e3.trans k2)
  omega
end EcM
set_option Elab.async false
set_option linter.all false
set_option maxRecDepth 100000
/-! None in a list of tuples and None -/
namespace L2
open PySem PySem.Spec PyProof.Rows
def NoneT (K : PySem.W.Frag) (H : Hp) (z : V) : Prop := z = .non ∨ ∃ a xs, z = .ref a ∧ SqT K H a xs
theorem noneT_is {z : V} {u : Value} {K : PySem.W.Frag} {H : Hp} (r : RelV z u) (f : NoneT K H z) : PySem.Numpy.isNone u = isNon z := by
  rcases f with rfl | ⟨a, xs, rfl, _⟩
  · cases r; rfl
  · cases r; rfl
theorem anyT {K : PySem.W.Frag} {H : Hp} : ∀ {xs : List V} {us : List Value}, Vals xs us → (∀ z ∈ xs, NoneT K H z) → us.any PySem.Numpy.isNone = xs.any isNon
  | _, _, .nil, _ => rfl
  | y :: xs, u :: us, .cons r t, f => by
    rw [List.any_cons, List.any_cons, noneT_is r (f y (List.mem_cons_self ..)), anyT t fun z hz => f z (List.mem_cons_of_mem _ hz)]
section
variable {X : Cx}
theorem noneT_eq {A : Around} {pins : List (Addr × Obj)} {σ : St} {H : Hp} {s : Shared} (I : Inv X pins σ H s) (hu : A.units < cLine) {z : V} {u : Value} (r : RelV z u) (f : NoneT X.K H z) : SeqAt.EqAt A s u .none (PySem.Numpy.isNone u) := by
  rcases f with rfl | ⟨a, xs, rfl, ha⟩
  · cases r
    exact SeqAt.EqAt.same _
  · cases r
    obtain ⟨its, rv, ⟨o, ho, hc, n, hd⟩, _⟩ := I.tuple ha
    exact SeqAt.EqAt.tuple_none ⟨o, ho, hc, n, hd⟩ hu
theorem memT {A : Around} {pins : List (Addr × Obj)} {σ : St} {H : Hp} {s : Shared} (I : Inv X pins σ H s) (hu : A.units < cLine) : ∀ {xs : List V} {us : List Value}, Vals xs us → (∀ z ∈ xs, NoneT X.K H z) → ∀ u ∈ us, SeqAt.EqAt A s u .none (PySem.Numpy.isNone u)
  | _, _, .nil, _ => fun u hu' => by cases hu'
  | y :: xs, u :: us, .cons r t, f => fun u' hu' => by
    rcases List.mem_cons.mp hu' with e | hu'
    · subst e
      exact noneT_eq I hu r (f y (List.mem_cons_self ..))
    · exact memT I hu t (fun z hz => f z (List.mem_cons_of_mem _ hz)) u' hu'
def rNoneInT (K : PySem.W.Frag) : R2 := fun x y H Q => ∃ p xs, x = .non ∧ y = .ref p ∧ SqL K H p xs ∧ (∀ z ∈ xs, NoneT K H z) ∧ Q (.bl (xs.any isNon)) H
theorem op_noneInT (hu : X.A.units + 64 < cLine) : OpR X (compareOp .In) (rNoneInT X.K) := by
  intro pins s σ H x y v u Q I rx ry h
  obtain ⟨p, xs, rfl, rfl, hq, f, q⟩ := h
  cases rx
  cases ry
  obtain ⟨its, rv, hl, _⟩ := I.list hq
  have hu1 : X.A.in1.units < cLine := by show X.A.units + 1 < cLine; omega
  refine SeqAt.in_listAt PySem.Numpy.isNone hl.isList (fun z hz => memT I hu1 rv f z (by simpa using hz)) ⟨.bl _, H, I, rfl, ?_⟩
  rw [show its.toArray.any PySem.Numpy.isNone = its.any PySem.Numpy.isNone by simp, anyT rv f]
  exact q
end
end L2
set_option Elab.async false
set_option linter.all false
set_option maxRecDepth 100000
set_option maxHeartbeats 4000000
namespace EcP
open PySem PySem.Spec PyProof.Rows L2 Gd QM EcM
/-! ### points as they stand -/
def PtT (K : PySem.W.Frag) (H : Hp) (p : Addr) : Pt → Prop
  | none => SqT K H p []
  | some (x, y) => ∃ a b, SqT K H p [.ref a, .ref b] ∧ SqT K H a (fq x) ∧ SqT K H b (fq y)
theorem PtT.same {K : PySem.W.Frag} {H H' : Hp} {p : Addr} {P : Pt} (h : PtT K H p P) (s : Same H H') : PtT K H' p P := by
  match P, h with
  | none, h => exact Same.tup s h
  | some (x, y), ⟨a, b, h1, h2, h3⟩ => exact ⟨a, b, Same.tup s h1, Same.tup s h2, Same.tup s h3⟩
theorem dp0 {K : PySem.W.Frag} {H : Hp} {t : Addr} (h : SqT K H t []) : Dp K H (.ref t) (.tuple []) := .tup h .nil
theorem eq00 : PyData.eqv (.tuple []) (.tuple []) = true := rfl
def dP : Pt → PyData
  | none => .tuple []
  | some (x, y) => .tuple [dq x, dq y]
theorem dp_pt {K : PySem.W.Frag} {H : Hp} {p : Addr} {P : Pt} (h : PtT K H p P) : Dp K H (.ref p) (dP P) := by
  match P, h with
  | none, h => exact dp0 h
  | some (x, y), ⟨a, b, h1, h2, h3⟩ => exact .tup h1 (.cons (dp_q h2) (.cons (dp_q h3) .nil))
theorem sh_q (a : Rat) : SeqAt.shaped (dq a) = true := rfl
theorem sh_P (P : Pt) : SeqAt.shaped (dP P) = true := by
  match P with
  | none => rfl
  | some (x, y) => rfl
theorem eqv_q2 (a b c d : Int) : PyData.eqv (.tuple [.int a, .int b]) (.tuple [.int c, .int d]) = (decide (a = c) && decide (b = d)) := by
  rw [Bool.eq_iff_iff]
  simp [PyData.eqv, PyData.eqvAll]
theorem eqv_q (a b : Rat) : PyData.eqv (dq a) (dq b) = decide (a = b) := by
  unfold dq
  rw [eqv_q2, Bool.eq_iff_iff, Bool.and_eq_true, decide_eq_true_iff, decide_eq_true_iff, decide_eq_true_iff]
  constructor
  · rintro ⟨h1, h2⟩
    exact Rat.ext h1 (by omega)
  · rintro rfl
    exact ⟨rfl, rfl⟩
theorem eqv_two (a b c d : PyData) : PyData.eqv (.tuple [a, b]) (.tuple [c, d]) = (PyData.eqv a c && PyData.eqv b d) := by
  rw [Bool.eq_iff_iff]
  simp [PyData.eqv, PyData.eqvAll]
theorem eqv_P (P Q : Pt) : PyData.eqv (dP P) (dP Q) = decide (P = Q) := by
  match P, Q with
  | none, none => rfl
  | none, some (x, y) => rfl
  | some (x, y), none => rfl
  | some (x, y), some (u, v) =>
    show PyData.eqv (.tuple [dq x, dq y]) (.tuple [dq u, dq v]) = _
    rw [eqv_two, eqv_q, eqv_q, Bool.eq_iff_iff, Bool.and_eq_true, decide_eq_true_iff, decide_eq_true_iff, decide_eq_true_iff]
    constructor
    · rintro ⟨rfl, rfl⟩
      rfl
    · intro h
      obtain ⟨rfl, rfl⟩ := Prod.mk.inj (Option.some.inj h)
      exact ⟨rfl, rfl⟩
theorem eqv_P0 (P : Pt) : PyData.eqv (dP P) (.tuple []) = decide (P = none) := eqv_P P none
theorem ix_tupK {X : Cx} {K : PySem.W.Frag} (h : X.K = K) : IxR X (rIxT K) := h ▸ ix_tup
theorem op_eqDK {X : Cx} {K : PySem.W.Frag} (h : X.K = K) (hu : X.A.units + 64 < cLine) : OpR X (compareOp .Eq) (rEqD K) := h ▸ op_eqD hu
/-! ### a concord -/
abbrev C3 := Rat × Rat × Rat
def comb : Option Rat → Option Rat → Option Rat → Option C3
  | some a, some b, some c => some (a, b, c)
  | _, _, _ => none
def Con (m n : Int) : Pt → Option C3 → Prop
  | none, o => o = none
  | some (x, _), o => (x = 0 ∧ o = none) ∨ (x ≠ 0 ∧ ∃ r0 r1 r2, SqQ x r0 ∧ SqQ (x + (m : Rat)) r1 ∧ SqQ (x + (n : Rat)) r2 ∧ o = comb r0 r1 r2)
theorem Con.uniq {m n : Int} {P : Pt} {o p : Option C3} (h : Con m n P o) (k : Con m n P p) : o = p := by
  match P, h, k with
  | none, h, k => exact h.trans k.symm
  | some (x, y), h, k =>
    rcases h with ⟨h0, rfl⟩ | ⟨h0, r0, r1, r2, a0, a1, a2, rfl⟩ <;> rcases k with ⟨k0, rfl⟩ | ⟨k0, s0, s1, s2, b0, b1, b2, rfl⟩
    · rfl
    · exact absurd h0 k0
    · exact absurd k0 h0
    · rw [a0.uniq b0, a1.uniq b1, a2.uniq b2]
def TrT (K : PySem.W.Frag) (H : Hp) (p : Addr) (c : C3) : Prop := ∃ a b d, SqT K H p [.ref a, .ref b, .ref d] ∧ SqT K H a (fq c.1) ∧ SqT K H b (fq c.2.1) ∧ SqT K H d (fq c.2.2)
theorem TrT.same {K : PySem.W.Frag} {H H' : Hp} {p : Addr} {c : C3} (h : TrT K H p c) (s : Same H H') : TrT K H' p c := by
  obtain ⟨a, b, d, h1, h2, h3, h4⟩ := h
  exact ⟨a, b, d, Same.tup s h1, Same.tup s h2, Same.tup s h3, Same.tup s h4⟩
def TrO (K : PySem.W.Frag) (H : Hp) (v : V) : Option C3 → Prop
  | none => v = .non
  | some c => ∃ p, v = .ref p ∧ TrT K H p c
theorem TrO.same {K : PySem.W.Frag} {H H' : Hp} {v : V} {c : Option C3} (h : TrO K H v c) (s : Same H H') : TrO K H' v c := by
  match c, h with
  | none, h => exact h
  | some c, ⟨p, h1, h2⟩ => exact ⟨p, h1, h2.same s⟩
/-- a root as it stands -/
def RtO (H : Hp) (v : V) : Option Rat → Prop
  | none => v = .non
  | some r => ∃ a, v = .ref a ∧ H a = some (.tup (fq r))
theorem RtO.same {H H' : Hp} {v : V} {o : Option Rat} (h : RtO H v o) (s : Same H H') : RtO H' v o := by
  match o, h with
  | none, h => exact h
  | some c, ⟨p, h1, h2⟩ => exact ⟨p, h1, s _ _ h2⟩
theorem RtO.put {H : Hp} {D : Addr} {l : List V} {o : HO} {v : V} {c : Option Rat} (h : RtO H v c) (hD : H D = some (.lst l)) : RtO (upd H D o) v c := by
  match c, h with
  | none, h => exact h
  | some c, ⟨p, h1, h2⟩ =>
    refine ⟨p, h1, ?_⟩
    rw [upd_ne (ne_of h2 hD (by intro z; cases z))]
    exact h2
theorem RtO.nt {K : PySem.W.Frag} {H : Hp} {v : V} {o : Option Rat} (h : RtO H v o) : NoneT K H v := by
  match o, h with
  | none, h => exact .inl h
  | some c, ⟨p, h1, h2⟩ => exact .inr ⟨p, _, h1, tup_of h2⟩
theorem RtO.isn {H : Hp} {v : V} {o : Option Rat} (h : RtO H v o) : isNon v = o.isNone := by
  match o, h with
  | none, h =>
    rw [show v = .non from h]
    rfl
  | some c, ⟨p, h1, h2⟩ =>
    rw [h1]
    rfl
/-- the list of roots that is being made -/
def RtD (H : Hp) (D : Addr) (x : Rat) (ks : List Int) (i : Nat) : Prop := ∃ L : List V, H D = some (.lst L) ∧ L.length = i ∧ ∀ (j : Nat) (k : Int) (v : V), ks[j]? = some k → L[j]? = some v → ∃ o, SqQ (x + (k : Rat)) o ∧ RtO H v o
theorem RtD.new {H : Hp} {D : Addr} {x : Rat} {ks : List Int} : RtD (upd H D (.lst [])) D x ks 0 := ⟨[], upd_same, rfl, fun j k v _ h => by simp at h⟩
theorem RtD.push {H H' : Hp} {D : Addr} {x : Rat} {ks : List Int} {i : Nat} {k : Int} {v : V} {o : Option Rat} (h : RtD H D x ks i) (s : Same H H') (hk : ks[i]? = some k) (hq : SqQ (x + (k : Rat)) o) (hv : RtO H' v o) (hi : i < 1000) :
    ∃ acc, H' D = some (.lst acc) ∧ acc.length < sizeLine ∧ RtD (upd H' D (.lst (acc ++ [v]))) D x ks (i + 1) := by
  obtain ⟨L, h1, h2, h3⟩ := h
  have h1' := s _ _ h1
  refine ⟨L, h1', small1000 (by omega), L ++ [v], upd_same, by rw [List.length_append, h2]; rfl, fun j k' v' hk' hj => ?_⟩
  rcases Nat.lt_or_ge j L.length with z | z
  · rw [List.getElem?_append_left z] at hj
    obtain ⟨o', q1, q2⟩ := h3 j k' v' hk' hj
    exact ⟨o', q1, (q2.same s).put h1'⟩
  · rw [List.getElem?_append_right z] at hj
    have ej : j - L.length = 0 := by
      rcases Nat.eq_zero_or_pos (j - L.length) with q | q
      · exact q
      · rw [List.getElem?_eq_none (by simp; omega)] at hj
        cases hj
    rw [ej] at hj
    obtain rfl := Option.some.inj hj
    have e2 : j = i := by omega
    subst e2
    rw [hk] at hk'
    obtain rfl := Option.some.inj hk'
    exact ⟨o, hq, hv.put h1'⟩
theorem RtD.three {H : Hp} {D : Addr} {x : Rat} {a b c : Int} (h : RtD H D x [a, b, c] 3) : ∃ u v w o p q, H D = some (.lst [u, v, w]) ∧ SqQ (x + (a : Rat)) o ∧ SqQ (x + (b : Rat)) p ∧ SqQ (x + (c : Rat)) q ∧ RtO H u o ∧ RtO H v p ∧ RtO H w q := by
  obtain ⟨L, h1, h2, h3⟩ := h
  match L, h2 with
  | [u, v, w], _ =>
    obtain ⟨o, o1, o2⟩ := h3 0 a u rfl rfl
    obtain ⟨p, p1, p2⟩ := h3 1 b v rfl rfl
    obtain ⟨q, q1, q2⟩ := h3 2 c w rfl rfl
    exact ⟨u, v, w, o, p, q, h1, o1, p1, q1, o2, p2, q2⟩
end EcP
set_option Elab.async false
set_option linter.all false
set_option maxRecDepth 100000
/-! sums of fractions of any two sizes -/
namespace Gd
open PySem PySem.Spec PyProof.Rows L2 QM
def spBin2 (ok : Rat → Rat → Prop) (op : Rat → Rat → Rat) (K : PySem.W.Frag) : Sp := fun vs H Q _ => ∃ (f g : Addr) (a b : Rat) (m n : Nat), vs = [.ref f, .ref g] ∧ SqT K H f (fq a) ∧ SqT K H g (fq b) ∧ RB m a ∧ RB n b ∧ m + n ≤ 8100 ∧ ok a b ∧ ∀ t, H t = none → Q (.ref t) (upd H t (.tup (fq (op a b))))
end Gd
set_option Elab.async false
set_option linter.all false
set_option maxRecDepth 100000
set_option maxHeartbeats 4000000
namespace K55
open PySem PySem.Spec PyProof.Rows L2 Gd QM EcM
def topS (i : Nat) : Stmt := PySem.Challenge.pw_pointsum_k55_whole_new_out_of_old.main.body.getD i (.Pass ⟨0, 0, 0, 0⟩)
/-- what the walk asks of the module's names -/
structure Tx (K : PySem.W.Frag) (mg : Str → Option Value) : Prop where
  gcd : mg "gcd" = some (.builtin "math.gcd")
  isqrt : mg "isqrt" = some (.builtin "math.isqrt")
  int : mg "int" = none
  len : mg "len" = none
  tuple : mg "tuple" = none
  abs : mg "abs" = none
  range : mg "range" = none
  repr : mg "repr" = none
theorem iteN {c A B : Prop} [Decidable c] (h : ¬ c) (b : B) : if c then A else B := by
  rw [if_neg h]
  exact b
theorem iteY {c A B : Prop} [Decidable c] (h : c) (b : A) : if c then A else B := by
  rw [if_pos h]
  exact b
section
variable {P : Program} {w : World} {K : PySem.W.Frag} {mg : Str → Option Value} {base : Heap}
/-! ### lowest -/
def sp_lowest : PySem.W.Frag → Sp := spCut
abbrev s_lowest : Stmt := topS 3
theorem sc_lowest : FnScope ["n", "d", "shared"] ["n", "d"] (defScope s_lowest) := ⟨rfl, rfl, rfl, by decide +kernel, rfl, by decide +kernel, by decide +kernel⟩
theorem k_lowest (T : Tx K mg) (D : Df K mg "lowest" s_lowest ["n", "d"])  : Kl P w K mg base 1 "lowest" (sp_lowest K) := by
  have nd := sc_lowest.nd
  refine Kl.by_body D sc_lowest (fun vs H Q E h => ?_) (fun f cdv A outer s H vs Q E hr h => ?_)
  · obtain ⟨_, _, rfl, _⟩ := h
    rfl
  · obtain ⟨n, d, rfl, hd, hn, hb, q⟩ := h
    have hu1 := hu_of hr
    refine ⟨_, (pss_cons (ps_set (i := 2) nd rfl (by first | exact Or.inl rfl | exact Or.inr rfl) (pe_callBfun cr_gcd (by rfl) T.gcd (pa_cons (pv 0) (pa_cons (pv 1) pa_nil))))
      (pss_cons (ps_if (pt_cmpR op_lt (pv 1) pe_int (nomark _)) (pss_one (ps_set (i := 2) nd rfl (by first | exact Or.inl rfl | exact Or.inr rfl) (pe_un un_neg (pv 2)))) pss_nil)
      (pss_one (ps_ret (pe_tup (pa_cons (pe_op op_fdivAny (pv 0) (pv 2)) (pa_cons (pe_op op_fdivAny (pv 1) (pv 2)) pa_nil))))))), ?_⟩
    refine ⟨_, rfl, _, rfl, n, d, rfl, ?_⟩
    have h1 : sg n d ≠ 0 := sg_ne hd
    have h2 : CDivAny n (sg n d) := div_any h1 (sg_B hd hb) (by decide)
    have h3 : CDivAny d (sg n d) := div_any h1 (sg_B hd hb) (by decide)
    refine ⟨_, rfl, d, 0, rfl, rfl, _, rfl, ite2 (fun e => ?_) (fun e => ?_)⟩
    · have e' : d < 0 := of_decide_eq_true e
      have es : sg n d = -((Nat.gcd n.natAbs d.natAbs : Nat) : Int) := if_pos e'
      refine ⟨_, rfl, _, rfl, ?_⟩
      refine ⟨_, rfl, _, rfl, n, _, rfl, rfl, es ▸ h2, _, rfl, _, rfl, d, _, rfl, rfl, es ▸ h3, (by show 2 ≤ sizeLine; decide), fun t nt => ?_⟩
      rw [← fq_div hd, es] at q
      exact q t nt
    · have e' : ¬ d < 0 := fun z => e (decide_eq_true z)
      have es : sg n d = ((Nat.gcd n.natAbs d.natAbs : Nat) : Int) := if_neg e'
      refine ⟨_, rfl, _, rfl, n, _, rfl, rfl, es ▸ h2, _, rfl, _, rfl, d, _, rfl, rfl, es ▸ h3, (by show 2 ≤ sizeLine; decide), fun t nt => ?_⟩
      rw [← fq_div hd, es] at q
      exact q t nt
/-! ### the sums -/
def sp_plus : PySem.W.Frag → Sp := spBin2 (fun a b => True) (fun a b => a + b)
abbrev s_plus : Stmt := topS 7
theorem sc_plus : FnScope ["f", "g"] ["f", "g"] (defScope s_plus) := ⟨rfl, rfl, rfl, by decide +kernel, rfl, by decide +kernel, by decide +kernel⟩
theorem k_plus (T : Tx K mg) (D : Df K mg "plus" s_plus ["f", "g"]) (c_lowest : Kl P w K mg base 1 "lowest" (sp_lowest K)) : Kl P w K mg base 2 "plus" (sp_plus K) := by
  have nd := sc_plus.nd
  refine Kl.by_body D sc_plus (fun vs H Q E h => ?_) (fun f cdv A outer s H vs Q E hr h => ?_)
  · obtain ⟨_, _, _, _, _, _, rfl, _⟩ := h
    rfl
  · obtain ⟨f, g, a, b, m, n, rfl, hf, hg, ha, hb, hmn, h0, q⟩ := h
    have hu1 := hu_of hr
    refine ⟨_, (pss_one (ps_ret (pe_k c_lowest  hr (by decide) (by rfl) (pa_cons (pe_op op_add (pe_op op_mulW (pe_ix ix_tup (pv 0) pe_int (fun _ _ => rfl)) (pe_ix ix_tup (pv 1) pe_int (fun _ _ => rfl))) (pe_op op_mulW (pe_ix ix_tup (pv 1) pe_int (fun _ _ => rfl)) (pe_ix ix_tup (pv 0) pe_int (fun _ _ => rfl)))) (pa_cons (pe_op op_mulW (pe_ix ix_tup (pv 0) pe_int (fun _ _ => rfl)) (pe_ix ix_tup (pv 1) pe_int (fun _ _ => rfl))) pa_nil))))), ?_⟩
    refine ⟨.ref f, rfl, f, _, 0, .int a.num, rfl, rfl, hf, rfl, .ref g, rfl, g, _, 1, .int b.den, rfl, rfl, hg, rfl, _, _, rfl, rfl, (B.mulW ha.n hb.d (by omega)), .ref g, rfl, g, _, 0, .int b.num, rfl, rfl, hg, rfl, .ref f, rfl, f, _, 1, .int a.den, rfl, rfl, hf, rfl, _, _, rfl, rfl, (B.mulW hb.n ha.d (by omega)), _, _, rfl, rfl, .ref f, rfl, f, _, 1, .int a.den, rfl, rfl, hf, rfl, .ref g, rfl, g, _, 1, .int b.den, rfl, rfl, hg, rfl, _, _, rfl, rfl, (B.mulW ha.d hb.d (by omega)), _, _, rfl, (mul_ne (den_ne a) (den_ne b)), ((B.mul ha.n hb.d).add (B.mul hb.n ha.d)).up (by omega), (B.mul ha.d hb.d).up (by omega), fun t nt => ?_⟩
    rw [fr_add a b]
    exact q t nt
def sp_less : PySem.W.Frag → Sp := spBin2 (fun a b => True) (fun a b => a - b)
abbrev s_less : Stmt := topS 8
theorem sc_less : FnScope ["f", "g"] ["f", "g"] (defScope s_less) := ⟨rfl, rfl, rfl, by decide +kernel, rfl, by decide +kernel, by decide +kernel⟩
theorem k_less (T : Tx K mg) (D : Df K mg "less" s_less ["f", "g"]) (c_lowest : Kl P w K mg base 1 "lowest" (sp_lowest K)) : Kl P w K mg base 2 "less" (sp_less K) := by
  have nd := sc_less.nd
  refine Kl.by_body D sc_less (fun vs H Q E h => ?_) (fun f cdv A outer s H vs Q E hr h => ?_)
  · obtain ⟨_, _, _, _, _, _, rfl, _⟩ := h
    rfl
  · obtain ⟨f, g, a, b, m, n, rfl, hf, hg, ha, hb, hmn, h0, q⟩ := h
    have hu1 := hu_of hr
    refine ⟨_, (pss_one (ps_ret (pe_k c_lowest  hr (by decide) (by rfl) (pa_cons (pe_op op_sub (pe_op op_mulW (pe_ix ix_tup (pv 0) pe_int (fun _ _ => rfl)) (pe_ix ix_tup (pv 1) pe_int (fun _ _ => rfl))) (pe_op op_mulW (pe_ix ix_tup (pv 1) pe_int (fun _ _ => rfl)) (pe_ix ix_tup (pv 0) pe_int (fun _ _ => rfl)))) (pa_cons (pe_op op_mulW (pe_ix ix_tup (pv 0) pe_int (fun _ _ => rfl)) (pe_ix ix_tup (pv 1) pe_int (fun _ _ => rfl))) pa_nil))))), ?_⟩
    refine ⟨.ref f, rfl, f, _, 0, .int a.num, rfl, rfl, hf, rfl, .ref g, rfl, g, _, 1, .int b.den, rfl, rfl, hg, rfl, _, _, rfl, rfl, (B.mulW ha.n hb.d (by omega)), .ref g, rfl, g, _, 0, .int b.num, rfl, rfl, hg, rfl, .ref f, rfl, f, _, 1, .int a.den, rfl, rfl, hf, rfl, _, _, rfl, rfl, (B.mulW hb.n ha.d (by omega)), _, _, rfl, rfl, .ref f, rfl, f, _, 1, .int a.den, rfl, rfl, hf, rfl, .ref g, rfl, g, _, 1, .int b.den, rfl, rfl, hg, rfl, _, _, rfl, rfl, (B.mulW ha.d hb.d (by omega)), _, _, rfl, (mul_ne (den_ne a) (den_ne b)), ((B.mul ha.n hb.d).sub (B.mul hb.n ha.d)).up (by omega), (B.mul ha.d hb.d).up (by omega), fun t nt => ?_⟩
    rw [fr_sub a b]
    exact q t nt
def sp_times : PySem.W.Frag → Sp := spBin2 (fun a b => True) (fun a b => a * b)
abbrev s_times : Stmt := topS 9
theorem sc_times : FnScope ["f", "g"] ["f", "g"] (defScope s_times) := ⟨rfl, rfl, rfl, by decide +kernel, rfl, by decide +kernel, by decide +kernel⟩
theorem k_times (T : Tx K mg) (D : Df K mg "times" s_times ["f", "g"]) (c_lowest : Kl P w K mg base 1 "lowest" (sp_lowest K)) : Kl P w K mg base 2 "times" (sp_times K) := by
  have nd := sc_times.nd
  refine Kl.by_body D sc_times (fun vs H Q E h => ?_) (fun f cdv A outer s H vs Q E hr h => ?_)
  · obtain ⟨_, _, _, _, _, _, rfl, _⟩ := h
    rfl
  · obtain ⟨f, g, a, b, m, n, rfl, hf, hg, ha, hb, hmn, h0, q⟩ := h
    have hu1 := hu_of hr
    refine ⟨_, (pss_one (ps_ret (pe_k c_lowest  hr (by decide) (by rfl) (pa_cons (pe_op op_mulW (pe_ix ix_tup (pv 0) pe_int (fun _ _ => rfl)) (pe_ix ix_tup (pv 1) pe_int (fun _ _ => rfl))) (pa_cons (pe_op op_mulW (pe_ix ix_tup (pv 0) pe_int (fun _ _ => rfl)) (pe_ix ix_tup (pv 1) pe_int (fun _ _ => rfl))) pa_nil))))), ?_⟩
    refine ⟨.ref f, rfl, f, _, 0, .int a.num, rfl, rfl, hf, rfl, .ref g, rfl, g, _, 0, .int b.num, rfl, rfl, hg, rfl, _, _, rfl, rfl, (B.mulW ha.n hb.n (by omega)), .ref f, rfl, f, _, 1, .int a.den, rfl, rfl, hf, rfl, .ref g, rfl, g, _, 1, .int b.den, rfl, rfl, hg, rfl, _, _, rfl, rfl, (B.mulW ha.d hb.d (by omega)), _, _, rfl, (mul_ne (den_ne a) (den_ne b)), (B.mul ha.n hb.n).up (by omega), (B.mul ha.d hb.d).up (by omega), fun t nt => ?_⟩
    rw [fr_mul a b]
    exact q t nt
def sp_over : PySem.W.Frag → Sp := spBin2 (fun a b => b ≠ 0) (fun a b => a / b)
abbrev s_over : Stmt := topS 10
theorem sc_over : FnScope ["f", "g"] ["f", "g"] (defScope s_over) := ⟨rfl, rfl, rfl, by decide +kernel, rfl, by decide +kernel, by decide +kernel⟩
theorem k_over (T : Tx K mg) (D : Df K mg "over" s_over ["f", "g"]) (c_lowest : Kl P w K mg base 1 "lowest" (sp_lowest K)) : Kl P w K mg base 2 "over" (sp_over K) := by
  have nd := sc_over.nd
  refine Kl.by_body D sc_over (fun vs H Q E h => ?_) (fun f cdv A outer s H vs Q E hr h => ?_)
  · obtain ⟨_, _, _, _, _, _, rfl, _⟩ := h
    rfl
  · obtain ⟨f, g, a, b, m, n, rfl, hf, hg, ha, hb, hmn, h0, q⟩ := h
    have hu1 := hu_of hr
    refine ⟨_, (pss_one (ps_ret (pe_k c_lowest  hr (by decide) (by rfl) (pa_cons (pe_op op_mulW (pe_ix ix_tup (pv 0) pe_int (fun _ _ => rfl)) (pe_ix ix_tup (pv 1) pe_int (fun _ _ => rfl))) (pa_cons (pe_op op_mulW (pe_ix ix_tup (pv 0) pe_int (fun _ _ => rfl)) (pe_ix ix_tup (pv 1) pe_int (fun _ _ => rfl))) pa_nil))))), ?_⟩
    refine ⟨.ref f, rfl, f, _, 0, .int a.num, rfl, rfl, hf, rfl, .ref g, rfl, g, _, 1, .int b.den, rfl, rfl, hg, rfl, _, _, rfl, rfl, (B.mulW ha.n hb.d (by omega)), .ref f, rfl, f, _, 1, .int a.den, rfl, rfl, hf, rfl, .ref g, rfl, g, _, 0, .int b.num, rfl, rfl, hg, rfl, _, _, rfl, rfl, (B.mulW ha.d hb.n (by omega)), _, _, rfl, (mul_ne (den_ne a) (num_ne h0)), (B.mul ha.n hb.d).up (by omega), (B.mul ha.d hb.n).up (by omega), fun t nt => ?_⟩
    rw [fr_div a b h0]
    exact q t nt
/-! ### power -/
theorem pw_odd (y x : Int) {j : Nat} (h : j % 2 = 1) : y * x ^ j = y * x * (x * x) ^ (j / 2) := by
  have e : j = 2 * (j / 2) + 1 := by omega
  have e2 : x ^ j = x ^ (j / 2) * x ^ (j / 2) * x := by
    calc x ^ j = x ^ (2 * (j / 2) + 1) := by rw [← e]
      _ = _ := by rw [Int.pow_succ, Nat.two_mul, Int.pow_add]
  have e3 : (x * x) ^ (j / 2) = x ^ (j / 2) * x ^ (j / 2) := Int.mul_pow ..
  rw [e2, e3]
  grind
theorem pw_even (y x : Int) {j : Nat} (h : j % 2 = 0) : y * x ^ j = y * (x * x) ^ (j / 2) := by
  have e : j = 2 * (j / 2) := by omega
  have e2 : x ^ j = x ^ (j / 2) * x ^ (j / 2) := by
    calc x ^ j = x ^ (2 * (j / 2)) := by rw [← e]
      _ = _ := by rw [Nat.two_mul, Int.pow_add]
  have e3 : (x * x) ^ (j / 2) = x ^ (j / 2) * x ^ (j / 2) := Int.mul_pow ..
  rw [e2, e3]
def sp_power (K : PySem.W.Frag) : Sp := fun vs H Q _ => ∃ (a e : Int), vs = [.int a, .int e] ∧ 0 ≤ e ∧ e ≤ 8 ∧ B 4000 a ∧ Q (.int (a ^ e.toNat)) H
abbrev s_power : Stmt := topS 2
theorem sc_power : FnScope ["a", "e", "result"] ["a", "e"] (defScope s_power) := ⟨rfl, rfl, rfl, by decide +kernel, rfl, by decide +kernel, by decide +kernel⟩
theorem k_power (T : Tx K mg) (D : Df K mg "power" s_power ["a", "e"])  : Kl P w K mg base 1 "power" (sp_power K) := by
  have nd := sc_power.nd
  refine Kl.by_body D sc_power (fun vs H Q E h => ?_) (fun f cdv A outer s H vs Q E hr h => ?_)
  · obtain ⟨_, _, rfl, _⟩ := h
    rfl
  · obtain ⟨a, e, rfl, h0, h8, ha, q⟩ := h
    have hu1 := hu_of hr
    refine ⟨_, (pss_cons (ps_set (i := 2) nd rfl (by first | exact Or.inl rfl | exact Or.inr rfl) pe_int)
      (pss_cons (ps_while PassesOwn.never (pt_cmpR op_gt (pv 1) pe_int (nomark _)) (C8.pss_cut (ps_if (pt_truth (pe_op op_and (pv 1) pe_int) (fun _ => rfl)) (pss_one (ps_set (i := 2) nd rfl (by first | exact Or.inl rfl | exact Or.inr rfl) (pe_op op_mulW (pv 2) (pv 0)))) pss_nil)
      (pss_cons (ps_set (i := 1) nd rfl (by first | exact Or.inl rfl | exact Or.inr rfl) (pe_op op_shr (pv 1) pe_int))
      (pss_one (ps_if (pt_cmpR op_gt (pv 1) pe_int (nomark _)) (pss_one (ps_set (i := 0) nd rfl (by first | exact Or.inl rfl | exact Or.inr rfl) (pe_op op_mulW (pv 0) (pv 0)))) pss_nil)))))
      (pss_one (ps_ret (pv 2))))), ?_⟩
    refine while_by (fun σ H2 => ∃ (x y : Int) (j i : Nat), σ = [some (.int x), some (.int (j : Int)), some (.int y)] ∧ H2 = H ∧ y * x ^ j = a ^ e.toNat ∧ j * 2 ^ i ≤ 8 ∧ (j ≠ 0 → B (4000 * 2 ^ i) x) ∧ B (4000 * 2 ^ i) y ∧ i ≤ 4)
      (fun σ _ => match σ with | [_, some (.int j), _] => j.toNat | _ => 0) ⟨a, 1, e.toNat, 0, ?_, rfl, Int.one_mul _, by omega, fun _ => ha, B.lit (by decide), by decide⟩ ?_ ?_
    · rw [show ((e.toNat : Nat) : Int) = e by omega]
      rfl
    · rintro σ H2 ⟨x, y, j, i, rfl, rfl, h1, h2, h3, h4, h5⟩
      refine ⟨_, rfl, _, _, rfl, rfl, _, rfl, ?_⟩
      by_cases hj : j = 0
      · subst hj
        refine iteN (by simp) ?_
        refine ⟨_, rfl, ?_⟩
        rw [Int.pow_zero, Int.mul_one] at h1
        rw [h1]
        exact q
      · refine iteY (by simp; omega) ?_
        have hx := h3 hj
        have hi : i ≤ 3 := by
          rcases Nat.lt_or_ge 3 i with z | z
          · have h6 : 1 * 2 ^ 4 ≤ j * 2 ^ i := Nat.mul_le_mul (by omega) (Nat.pow_le_pow_right (by decide) z)
            omega
          · exact z
        have e2 : 4000 * 2 ^ (i + 1) = 4000 * 2 ^ i + 4000 * 2 ^ i := by rw [Nat.pow_succ]; omega
        have hw : 4000 * 2 ^ i ≤ 32000 := by
          have h6 : 2 ^ i ≤ 2 ^ 3 := Nat.pow_le_pow_right (by decide) hi
          omega
        have hd : (j / 2) * 2 ^ (i + 1) ≤ 8 := by
          rw [Nat.pow_succ]
          have h6 : (j / 2) * 2 ≤ j := Nat.div_mul_le_self j 2
          have h7 : (j / 2) * 2 * 2 ^ i ≤ j * 2 ^ i := Nat.mul_le_mul_right _ h6
          calc j / 2 * (2 ^ i * 2) = (j / 2) * 2 * 2 ^ i := by rw [Nat.mul_comm (2 ^ i) 2, Nat.mul_assoc]
            _ ≤ _ := Nat.le_trans h7 h2
        refine ⟨fun σ H3 => H3 = H2 ∧ σ = [some (.int x), some (.int (j : Int)), some (.int (if j % 2 = 1 then y * x else y))], ?_, ?_⟩
        · refine ⟨_, rfl, (j : Int), 1, rfl, rfl, _, rfl, ?_⟩
          rw [bitAnd_m1]
          by_cases hp : j % 2 = 1
          · refine iteY (by simp; omega) ?_
            refine ⟨_, rfl, _, rfl, _, _, rfl, rfl, h4.mulW hx (by omega), rfl, ?_⟩
            rw [if_pos hp]
            rfl
          · refine iteN (by simp; omega) ?_
            refine ⟨rfl, ?_⟩
            rw [if_neg hp]
        · rintro σ H3 ⟨rfl, rfl⟩
          refine ⟨_, rfl, _, _, rfl, rfl, by omega, ?_⟩
          have hy : B (4000 * 2 ^ (i + 1)) (if j % 2 = 1 then y * x else y) := by
            rw [e2]
            split
            · exact h4.mul hx
            · exact h4.up (by omega)
          have hj2 : (j : Int) / 2 ^ (1 : Int).toNat = ((j / 2 : Nat) : Int) := by
            show (j : Int) / 2 = _
            omega
          refine sigN [some (.int x), some (.int ((j / 2 : Nat) : Int)), some (.int (if j % 2 = 1 then y * x else y))] (by rw [← hj2]; rfl) ?_
          refine ⟨_, rfl, _, _, rfl, rfl, _, rfl, ?_⟩
          by_cases hk : j / 2 = 0
          · rw [hk]
            refine iteN (by simp) ?_
            have hj1 : j = 1 := by omega
            subst hj1
            rw [Int.pow_one] at h1
            exact ⟨⟨x, _, 0, i + 1, rfl, rfl, (by rw [Int.pow_zero, Int.mul_one]; exact h1), by omega, fun z => absurd rfl z, hy, by omega⟩, by show (0 : Int).toNat < ((1 : Nat) : Int).toNat; decide⟩
          · refine iteY (by simp; omega) ?_
            refine ⟨_, rfl, _, rfl, _, _, rfl, rfl, hx.mulW hx (by omega), ?_⟩
            refine ⟨⟨x * x, _, j / 2, i + 1, rfl, rfl, ?_, hd, fun _ => ?_, hy, by omega⟩, ?_⟩
            · rw [← h1]
              split
              · rename_i hp
                exact (pw_odd y x hp).symm
              · rename_i hp
                exact (pw_even y x (by omega)).symm
            · rw [e2]
              exact hx.mul hx
            · show ((j / 2 : Nat) : Int).toNat < ((j : Nat) : Int).toNat
              omega
    · rintro σ H2 Q1 Q2 i ⟨v, hv, x, y, e1, e2, k, e, z⟩
      exact ⟨v, hv, x, y, e1, e2, k, e, i _ _ z⟩
/-! ### root_of, of squares -/
def sp_root_of (K : PySem.W.Frag) : Sp := fun vs H Q _ => ∃ n : Int, vs = [.int n, .int 2] ∧ 0 ≤ n ∧ B 3900 n ∧ ∀ r, 0 ≤ r → r ≤ n → r * r ≤ n → (∀ s, 0 ≤ s → s * s ≤ n → s ≤ r) → Q (.int r) H
abbrev s_root_of : Stmt := topS 4
theorem sc_root_of : FnScope ["n", "k", "r", "better"] ["n", "k"] (defScope s_root_of) := ⟨rfl, rfl, rfl, by decide +kernel, rfl, by decide +kernel, by decide +kernel⟩
theorem k_root_of (T : Tx K mg) (D : Df K mg "root_of" s_root_of ["n", "k"]) (c_power : Kl P w K mg base 1 "power" (sp_power K)) : Kl P w K mg base 2 "root_of" (sp_root_of K) := by
  have nd := sc_root_of.nd
  refine Kl.by_body D sc_root_of (fun vs H Q E h => ?_) (fun f cdv A outer s H vs Q E hr h => ?_)
  · obtain ⟨_, rfl, _⟩ := h
    rfl
  · obtain ⟨n, rfl, h0, hn, q⟩ := h
    have hu1 := hu_of hr
    refine ⟨_, (pss_cons (ps_if (PW.pt (pw_or (pt_cmpR op_lt (pv 0) pe_int (nomark _)) (pw_or1 (pt_cmpR op_eq (pv 1) pe_int (nomark _))))) (pss_one (ps_ret (pv 0))) pss_nil)
      (pss_cons (ps_if (pt_cmpR op_eq (pv 1) pe_int (nomark _)) (pss_one (ps_ret (pe_callBfun cr_isqrt (by rfl) T.isqrt (pa_cons (pv 0) pa_nil)))) pss_nil)
      (pss_cons (ps_set (i := 2) nd rfl (by first | exact Or.inl rfl | exact Or.inr rfl) (pe_op op_shlN pe_int (pe_op op_add (pe_op op_fdivAny (pe_bits (pv 0)) (pv 1)) pe_int)))
      (pss_one (ps_while PassesOwn.never (pt_val pe_bl) (pss_cons (ps_set (i := 3) nd rfl (by first | exact Or.inl rfl | exact Or.inr rfl) (pe_op op_fdivAny (pe_op op_add (pe_op op_mulW (pe_op op_sub (pv 1) pe_int) (pv 2)) (pe_op op_fdivAny (pv 0) (pe_k c_power  hr (by decide) (by rfl) (pa_cons (pv 2) (pa_cons (pe_op op_sub (pv 1) pe_int) pa_nil))))) (pv 1)))
      (pss_cons (ps_if (pt_cmpR op_ge (pv 3) (pv 2) (nomark _)) (pss_one (ps_ret (pv 2))) pss_nil)
      (pss_one (ps_set (i := 2) nd rfl (by first | exact Or.inl rfl | exact Or.inr rfl) (pv 3)))))))))), ?_⟩
    refine ⟨_, rfl, n, 2, rfl, rfl, _, rfl, ?_⟩
    by_cases hn2 : n < 2
    · refine iteY (by simpa using hn2) ?_
      refine ⟨_, rfl, q n h0 (Int.le_refl _) ?_ (fun s hs h => ?_)⟩
      · rcases (show n = 0 ∨ n = 1 by omega) with rfl | rfl <;> decide
      · rcases Int.lt_or_le n s with z | z
        · exfalso
          have h1 := Int.mul_le_mul (show n + 1 ≤ s by omega) (show n + 1 ≤ s by omega) (by omega) hs
          have h2 : (n + 1) * (n + 1) = n * n + 2 * n + 1 := by grind
          have h3 : 0 ≤ n * n := Int.mul_nonneg h0 h0
          omega
        · exact z
    · refine iteN (by simpa using hn2) ?_
      refine ⟨_, rfl, rfl, _, rfl, ?_⟩
      rw [dec_int]
      refine iteN (by decide) ?_
      refine ⟨_, rfl, rfl, _, rfl, ?_⟩
      rw [dec_int]
      refine iteY (by decide) ?_
      obtain ⟨z1, z2⟩ := isqrt_is h0
      have hB4 : n.natAbs < 2 ^ 4000 := hn.up (n := 4000) (by decide)
      refine ⟨_, rfl, n, rfl, h0, hB4, ?_⟩
      generalize ((PySem.Float64.isqrt n.toNat : Nat) : Int) = y at z1 z2
      have hy0 : 0 ≤ y := by
        have := z2 0 (by decide) (by omega)
        omega
      have hyn : y ≤ n := by
        rcases (show y = 0 ∨ 1 ≤ y by omega) with e | e
        · omega
        · have := Int.mul_le_mul_of_nonneg_left e hy0
          omega
      exact q y hy0 hyn z1 z2
/-! ### exact_root, of squares -/
def oV : Option Int → V
  | none => .non
  | some r => .int r
def sp_exact_root (K : PySem.W.Frag) : Sp := fun vs H Q _ => ∃ n : Int, vs = [.int n, .int 2] ∧ B 3900 n ∧ ∀ o, SqR n o → (∀ r, o = some r → B 3900 r) → Q (oV o) H
abbrev s_exact_root : Stmt := topS 5
theorem sc_exact_root : FnScope ["n", "k", "r"] ["n", "k"] (defScope s_exact_root) := ⟨rfl, rfl, rfl, by decide +kernel, rfl, by decide +kernel, by decide +kernel⟩
theorem k_exact_root (T : Tx K mg) (D : Df K mg "exact_root" s_exact_root ["n", "k"]) (c_root_of : Kl P w K mg base 2 "root_of" (sp_root_of K)) (c_power : Kl P w K mg base 1 "power" (sp_power K)) : Kl P w K mg base 3 "exact_root" (sp_exact_root K) := by
  have nd := sc_exact_root.nd
  refine Kl.by_body D sc_exact_root (fun vs H Q E h => ?_) (fun f cdv A outer s H vs Q E hr h => ?_)
  · obtain ⟨_, rfl, _⟩ := h
    rfl
  · obtain ⟨n, rfl, hn, q⟩ := h
    have c_exact_root : Kl P w K mg base (0 + 1) "exact_root" (fun _ _ _ _ => False) := Kl.by_body D sc_exact_root (fun _ _ _ _ h => h.elim) (fun _ _ _ _ _ _ _ _ _ _ h => h.elim)
    have hu1 := hu_of hr
    refine ⟨_, (pss_cons (ps_if (pt_cmpR op_lt (pv 0) pe_int (nomark _)) (pss_cons (ps_if (pt_cmpR op_eq (pe_op op_mod (pv 1) pe_int) pe_int (nomark _)) (pss_one (ps_ret pe_non)) pss_nil)
      (pss_cons (ps_set (i := 2) nd rfl (by first | exact Or.inl rfl | exact Or.inr rfl) (pe_k c_exact_root  hr (by decide) (by rfl) (pa_cons (pe_un un_neg (pv 0)) (pa_cons (pv 1) pa_nil))))
      (pss_one (ps_ret (pe_ifExp (pt_cmpR op_isN (pv 2) pe_non (nomark _)) pe_non (pe_un un_neg (pv 2))))))) pss_nil)
      (pss_cons (ps_set (i := 2) nd rfl (by first | exact Or.inl rfl | exact Or.inr rfl) (pe_k c_root_of  hr (by decide) (by rfl) (pa_cons (pv 0) (pa_cons (pv 1) pa_nil))))
      (pss_one (ps_ret (pe_ifExp (pt_cmpR op_eq (pe_k c_power  hr (by decide) (by rfl) (pa_cons (pv 2) (pa_cons (pv 1) pa_nil))) (pv 0) (nomark _)) (pv 2) pe_non))))), ?_⟩
    refine ⟨_, rfl, n, 0, rfl, rfl, _, rfl, ?_⟩
    by_cases hn0 : n < 0
    · refine iteY (by simpa using hn0) ?_
      refine ⟨_, rfl, _, _, rfl, rfl, (by show (0 : Int) < 2; decide), rfl, _, rfl, ?_⟩
      rw [dec_int]
      refine iteY (by decide) ?_
      exact q none (fun r z => by have := sq0 r; omega) (fun r z => by cases z)
    · refine iteN (by simpa using hn0) ?_
      refine ⟨_, rfl, _, rfl, n, rfl, by omega, hn, fun y y0 yn yle ymax => ?_⟩
      have yB : B 3900 y := by
        unfold B at hn ⊢
        omega
      refine ⟨_, rfl, _, rfl, y, 2, rfl, by decide, by decide, yB.up (by decide), _, rfl, rfl, _, rfl, ?_⟩
      rw [dec_int]
      have e : y ^ (2 : Int).toNat = y * y := by
        show y ^ 2 = y * y
        rw [Int.pow_succ, Int.pow_succ, Int.pow_zero, Int.one_mul]
      rw [e]
      by_cases he : y * y = n
      · refine iteY (by simpa using he) ?_
        exact ⟨_, rfl, q (some y) ⟨y0, he⟩ (fun r z => by cases z; exact yB)⟩
      · refine iteN (by simpa using he) ?_
        exact q none (fun r z => he (sq_max y0 yle ymax z)) (fun r z => by cases z)
/-! ### total, product -/
def spSumE (op : Rat → Rat → Rat) (e : Rat) (K : PySem.W.Frag) : Sp := fun vs H Q _ => ∃ (l : Addr) (ps : List (Addr × Rat × Nat)), vs = [.ref l] ∧ SqL K H l (ps.map fun p => .ref p.1) ∧ FrE K H ps ∧ (ps.map fun p => p.2.2 + 1).sum ≤ 8000 ∧ ∀ H' t, Same H H' → H t = none → H' t = some (.tup (fq (ps.foldl (fun x p => op x p.2.1) e))) → Q (.ref t) H'
theorem foldl_takeE (op : Rat → Rat → Rat) (e : Rat) (ps : List (Addr × Rat × Nat)) {i : Nat} {p : Addr × Rat × Nat} (h : ps[i]? = some p) : (ps.take (i + 1)).foldl (fun x p => op x p.2.1) e = op ((ps.take i).foldl (fun x p => op x p.2.1) e) p.2.1 := by
  rw [List.take_succ, List.foldl_append, h]
  rfl
theorem map_getE {ps : List (Addr × Rat × Nat)} {i : Nat} {x : V} (h : (ps.map fun p => V.ref p.1)[i]? = some x) : ∃ p, ps[i]? = some p ∧ x = .ref p.1 := by
  rw [List.getElem?_map] at h
  cases e : ps[i]? with
  | none =>
    rw [e] at h
    cases h
  | some p =>
    rw [e] at h
    exact ⟨p, rfl, (Option.some.inj h).symm⟩
theorem sum_take {ps : List (Addr × Rat × Nat)} {i : Nat} {p : Addr × Rat × Nat} (h : ps[i]? = some p) : ((ps.take (i + 1)).map fun p => p.2.2 + 1).sum = ((ps.take i).map fun p => p.2.2 + 1).sum + (p.2.2 + 1) := by
  rw [List.take_succ, h, List.map_append, List.sum_append]
  simp
theorem sum_take_le {ps : List (Addr × Rat × Nat)} (i : Nat) : ((ps.take i).map fun p => p.2.2 + 1).sum ≤ (ps.map fun p => p.2.2 + 1).sum := by
  conv => rhs; rw [← List.take_append_drop i ps, List.map_append, List.sum_append]
  omega
theorem q0 : [V.int 0, V.int 1] = fq 0 := rfl
theorem q1 : [V.int 1, V.int 1] = fq 1 := rfl
theorem _root_.QM.RB.zero : RB 1 (0 : Rat) := ⟨by decide, by decide⟩
theorem _root_.QM.RB.one : RB 1 (1 : Rat) := ⟨by decide, by decide⟩
def sp_total : PySem.W.Frag → Sp := spSumE (· + ·) 0
abbrev s_total : Stmt := topS 11
theorem sc_total : FnScope ["fractions", "result", "f"] ["fractions"] (defScope s_total) := ⟨rfl, rfl, rfl, by decide +kernel, rfl, by decide +kernel, by decide +kernel⟩
theorem k_total (T : Tx K mg) (D : Df K mg "total" s_total ["fractions"]) (c_plus : Kl P w K mg base 2 "plus" (sp_plus K)) : Kl P w K mg base 3 "total" (sp_total K) := by
  have nd := sc_total.nd
  refine Kl.by_body D sc_total (fun vs H Q E h => ?_) (fun f cdv A outer s H vs Q E hr h => ?_)
  · obtain ⟨_, _, rfl, _⟩ := h
    rfl
  · obtain ⟨l, ps, rfl, hx, hp, hl, q⟩ := h
    have hu1 := hu_of hr
    refine ⟨_, (pss_cons (ps_set (i := 1) nd rfl (by first | exact Or.inl rfl | exact Or.inr rfl) (pe_tup (pa_cons pe_int (pa_cons pe_int pa_nil))))
      (pss_cons (ps_for PassesOwn.never rfl (pi_list (pv 0)) (pg_name (i := 2) nd rfl (by first | exact Or.inl rfl | exact Or.inr rfl)) (pss_one (ps_set (i := 1) nd rfl (by first | exact Or.inl rfl | exact Or.inr rfl) (pe_k c_plus  hr (by decide) (by rfl) (pa_cons (pv 1) (pa_cons (pv 2) pa_nil))))))
      (pss_one (ps_ret (pv 1))))), ?_⟩
    refine ⟨(by show 2 ≤ sizeLine; decide), fun r nr => ?_⟩
    rw [q0]
    have s1 := Same.new (H := H) (p := r) (o := .tup (fq 0)) nr
    have g1 : upd H r (.tup (fq 0)) r = some (.tup (fq 0)) := upd_same
    generalize upd H r (.tup (fq 0)) = H1 at s1 g1 ⊢
    refine ⟨_, rfl, l, rfl, ⟨_, s1.seq hx⟩, for_list (K := K) (a := l) (xs := ps.map fun p => .ref p.1) (fun i σ H2 => Same H H2 ∧ ∃ (r : Addr) (v : Option V), σ = [some (.ref l), some (.ref r), v] ∧ H r = none ∧ H2 r = some (.tup (fq ((ps.take i).foldl (fun x p => x + p.2.1) 0))) ∧ RB (((ps.take i).map fun p => p.2.2 + 1).sum + 1) ((ps.take i).foldl (fun x p => x + p.2.1) 0)) ⟨s1, r, none, rfl, nr, g1, RB.zero⟩ (fun i σ H2 _ z => z.1.seq hx) ?_ ?_⟩
    · rintro i x σ H2 hi ⟨s2, r2, v, rfl, n2, g2, b2⟩
      obtain ⟨p, hpi, rfl⟩ := map_getE hi
      obtain ⟨h1, h2⟩ := hp p (List.mem_of_getElem? hpi)
      have hs := sum_take hpi
      have hsz := sum_take_le (ps := ps) (i + 1)
      refine ⟨_, rfl, _, rfl, r2, p.1, _, _, _, _, rfl, tup_of g2, Same.tup s2 h1, b2, h2, (by omega), trivial, fun t nt => ?_⟩
      refine ⟨Same.put s2 (s2.free nt), t, _, rfl, s2.free nt, ?_, ?_⟩
      · rw [upd_same, foldl_takeE (fun a b => a + b) 0 _ hpi]
      · rw [foldl_takeE (fun a b => a + b) 0 _ hpi]
        exact (b2.add h2).up (by omega)
    · rintro σ H2 ⟨s2, r2, v, rfl, n2, g2, b2⟩
      rw [List.length_map, List.take_length] at g2
      exact ⟨_, rfl, q _ r2 s2 n2 g2⟩
def sp_product : PySem.W.Frag → Sp := spSumE (· * ·) 1
abbrev s_product : Stmt := topS 12
theorem sc_product : FnScope ["fractions", "result", "f"] ["fractions"] (defScope s_product) := ⟨rfl, rfl, rfl, by decide +kernel, rfl, by decide +kernel, by decide +kernel⟩
theorem k_product (T : Tx K mg) (D : Df K mg "product" s_product ["fractions"]) (c_times : Kl P w K mg base 2 "times" (sp_times K)) : Kl P w K mg base 3 "product" (sp_product K) := by
  have nd := sc_product.nd
  refine Kl.by_body D sc_product (fun vs H Q E h => ?_) (fun f cdv A outer s H vs Q E hr h => ?_)
  · obtain ⟨_, _, rfl, _⟩ := h
    rfl
  · obtain ⟨l, ps, rfl, hx, hp, hl, q⟩ := h
    have hu1 := hu_of hr
    refine ⟨_, (pss_cons (ps_set (i := 1) nd rfl (by first | exact Or.inl rfl | exact Or.inr rfl) (pe_tup (pa_cons pe_int (pa_cons pe_int pa_nil))))
      (pss_cons (ps_for PassesOwn.never rfl (pi_list (pv 0)) (pg_name (i := 2) nd rfl (by first | exact Or.inl rfl | exact Or.inr rfl)) (pss_one (ps_set (i := 1) nd rfl (by first | exact Or.inl rfl | exact Or.inr rfl) (pe_k c_times  hr (by decide) (by rfl) (pa_cons (pv 1) (pa_cons (pv 2) pa_nil))))))
      (pss_one (ps_ret (pv 1))))), ?_⟩
    refine ⟨(by show 2 ≤ sizeLine; decide), fun r nr => ?_⟩
    rw [q1]
    have s1 := Same.new (H := H) (p := r) (o := .tup (fq 1)) nr
    have g1 : upd H r (.tup (fq 1)) r = some (.tup (fq 1)) := upd_same
    generalize upd H r (.tup (fq 1)) = H1 at s1 g1 ⊢
    refine ⟨_, rfl, l, rfl, ⟨_, s1.seq hx⟩, for_list (K := K) (a := l) (xs := ps.map fun p => .ref p.1) (fun i σ H2 => Same H H2 ∧ ∃ (r : Addr) (v : Option V), σ = [some (.ref l), some (.ref r), v] ∧ H r = none ∧ H2 r = some (.tup (fq ((ps.take i).foldl (fun x p => x * p.2.1) 1))) ∧ RB (((ps.take i).map fun p => p.2.2 + 1).sum + 1) ((ps.take i).foldl (fun x p => x * p.2.1) 1)) ⟨s1, r, none, rfl, nr, g1, RB.one⟩ (fun i σ H2 _ z => z.1.seq hx) ?_ ?_⟩
    · rintro i x σ H2 hi ⟨s2, r2, v, rfl, n2, g2, b2⟩
      obtain ⟨p, hpi, rfl⟩ := map_getE hi
      obtain ⟨h1, h2⟩ := hp p (List.mem_of_getElem? hpi)
      have hs := sum_take hpi
      have hsz := sum_take_le (ps := ps) (i + 1)
      refine ⟨_, rfl, _, rfl, r2, p.1, _, _, _, _, rfl, tup_of g2, Same.tup s2 h1, b2, h2, (by omega), trivial, fun t nt => ?_⟩
      refine ⟨Same.put s2 (s2.free nt), t, _, rfl, s2.free nt, ?_, ?_⟩
      · rw [upd_same, foldl_takeE (fun a b => a * b) 1 _ hpi]
      · rw [foldl_takeE (fun a b => a * b) 1 _ hpi]
        exact (b2.mul h2).up (by omega)
    · rintro σ H2 ⟨s2, r2, v, rfl, n2, g2, b2⟩
      rw [List.length_map, List.take_length] at g2
      exact ⟨_, rfl, q _ r2 s2 n2 g2⟩
/-! ### root_of_fraction, of squares -/
def sp_root_of_fraction (K : PySem.W.Frag) : Sp := fun vs H Q _ => ∃ (f : Addr) (a : Rat), vs = [.ref f, .int 2] ∧ SqT K H f (fq a) ∧ RB 3900 a ∧ (SqQ a none → Q .non H) ∧ ∀ r t, SqQ a (some r) → RB 3900 r → H t = none → Q (.ref t) (upd H t (.tup (fq r)))
abbrev s_root_of_fraction : Stmt := topS 14
theorem sc_root_of_fraction : FnScope ["f", "k", "n", "d"] ["f", "k"] (defScope s_root_of_fraction) := ⟨rfl, rfl, rfl, by decide +kernel, rfl, by decide +kernel, by decide +kernel⟩
theorem k_root_of_fraction (T : Tx K mg) (D : Df K mg "root_of_fraction" s_root_of_fraction ["f", "k"]) (c_exact_root : Kl P w K mg base 3 "exact_root" (sp_exact_root K)) : Kl P w K mg base 4 "root_of_fraction" (sp_root_of_fraction K) := by
  have nd := sc_root_of_fraction.nd
  refine Kl.by_body D sc_root_of_fraction (fun vs H Q E h => ?_) (fun f cdv A outer s H vs Q E hr h => ?_)
  · obtain ⟨_, _, rfl, _⟩ := h
    rfl
  · obtain ⟨f, a, rfl, hf, ha, qN, qS⟩ := h
    have hu1 := hu_of hr
    refine ⟨_, (pss_cons (ps_par (i := 2) (j := 3) (by rfl) nd rfl rfl (by decide) rfl rfl (pa_cons (pe_k c_exact_root  hr (by decide) (by rfl) (pa_cons (pe_ix ix_tup (pv 0) pe_int (fun _ _ => rfl)) (pa_cons (pv 1) pa_nil))) (pa_cons (pe_k c_exact_root  hr (by decide) (by rfl) (pa_cons (pe_ix ix_tup (pv 0) pe_int (fun _ _ => rfl)) (pa_cons (pv 1) pa_nil))) pa_nil)) (by rfl))
      (pss_one (ps_ret (pe_ifExp (PW.pt (pw_or (pt_cmpR op_isN (pv 2) pe_non (nomark _)) (pw_or1 (pt_cmpR op_isN (pv 3) pe_non (nomark _))))) pe_non (pe_tup (pa_cons (pv 2) (pa_cons (pv 3) pa_nil))))))), ?_⟩
    refine ⟨.ref f, rfl, f, _, 0, .int a.num, rfl, rfl, hf, rfl, _, rfl, a.num, rfl, ha.n, fun o1 h1 b1 => ?_⟩
    refine ⟨.ref f, rfl, f, _, 1, .int (a.den : Int), rfl, rfl, hf, rfl, _, rfl, (a.den : Int), rfl, ha.d, fun o2 h2 b2 => ?_⟩
    refine ⟨_, _, rfl, ?_⟩
    cases o1 with
    | none =>
      refine ⟨_, rfl, rfl, _, rfl, iteT ?_⟩
      exact qN (SqQ.none1 h1)
    | some n =>
      refine ⟨_, rfl, rfl, _, rfl, iteF ?_⟩
      cases o2 with
      | none =>
        refine ⟨_, rfl, rfl, _, rfl, iteT ?_⟩
        exact qN (SqQ.none2 h2)
      | some d =>
        refine ⟨_, rfl, rfl, _, rfl, iteF ?_⟩
        refine ⟨_, rfl, _, rfl, (by show 2 ≤ sizeLine; decide), fun t nt => ?_⟩
        obtain ⟨r, hr1, rfl, rfl⟩ := SqQ.of h1 h2
        exact qS r t hr1 ⟨b1 _ rfl, b2 _ rfl⟩ nt
end
end K55
set_option Elab.async false
set_option linter.all false
set_option maxRecDepth 100000
set_option maxHeartbeats 4000000
namespace K55
open PySem PySem.Spec PyProof.Rows L2 Gd QM EcM
local macro_rules | `(tactic| walk_at "bd") => `(tactic| (repeat (first | assumption | apply B.add | apply B.sub | apply B.mul | apply B.neg | exact B.lit (n := 8) (by decide))))
local macro_rules | `(tactic| walk_at "bu") => `(tactic| (apply B.up; walk_at "bd"; decide))
local macro_rules | `(tactic| walk_at "bnd") => `(tactic| (apply B.mulW; walk_at "bd"; decide))
local macro_rules | `(tactic| walk_at "pw") => `(tactic| exact B.up (n := 64) (by assumption) (by decide))
theorem abs_eq (i : Int) : (if i < 0 then -i else i) = (i.natAbs : Int) := by
  split <;> omega
section
variable {P : Program} {w : World} {K : PySem.W.Frag} {mg : Str → Option Value} {base : Heap}
/-! ### the law's common factor -/
def sp_law_common (K : PySem.W.Frag) : Sp := fun vs H Q _ => ∃ a b : Int, vs = [.int a, .int b] ∧ B 8200 a ∧ B 8200 b ∧ Q (.int ((Nat.gcd a.natAbs b.natAbs : Nat) : Int)) H
theorem gcd_turn {x y : Int} (h1 : 0 ≤ x) (h2 : 0 ≤ y) (h0 : y ≠ 0) : 0 ≤ x - x.fdiv y * y ∧ (x - x.fdiv y * y).natAbs < y.natAbs ∧ Nat.gcd y.natAbs (x - x.fdiv y * y).natAbs = Nat.gcd x.natAbs y.natAbs := by
  have e : x - x.fdiv y * y = x % y := by
    rw [Int.fdiv_eq_ediv_of_nonneg x h2, Int.emod_def, Int.mul_comm]
  have h3 : 0 ≤ x % y := Int.emod_nonneg x h0
  have h4 : x % y < y := Int.emod_lt_of_pos x (by omega)
  rw [e]
  refine ⟨h3, by omega, ?_⟩
  have e2 : (x % y).natAbs = x.natAbs % y.natAbs := by
    rw [Int.natAbs_emod_of_nonneg h1]
  rw [e2, Nat.gcd_comm y.natAbs, ← Nat.gcd_rec y.natAbs x.natAbs, Nat.gcd_comm]
abbrev s__law_common : Stmt := topS 39
theorem sc__law_common : FnScope ["a", "b"] ["a", "b"] (defScope s__law_common) := ⟨rfl, rfl, rfl, by decide +kernel, rfl, by decide +kernel, by decide +kernel⟩
theorem k_law_common (T : Tx K mg) (D : Df K mg "_law_common" s__law_common ["a", "b"])  : Kl P w K mg base 1 "_law_common" (sp_law_common K) := by
  have nd := sc__law_common.nd
  refine Kl.by_body D sc__law_common (fun vs H Q E h => ?_) (fun f cdv A outer s H vs Q E hr h => ?_)
  · obtain ⟨_, _, rfl, _⟩ := h
    rfl
  · obtain ⟨a, b, rfl, ha, hb, q⟩ := h
    have hu1 := hu_of hr
    refine ⟨_, (pss_cons (ps_par (i := 0) (j := 1) (by rfl) nd rfl rfl (by decide) rfl rfl (pa_cons (pe_callB call_abs (by rfl) T.abs (by decide +kernel) (pa_cons (pv 0) pa_nil)) (pa_cons (pe_callB call_abs (by rfl) T.abs (by decide +kernel) (pa_cons (pv 1) pa_nil)) pa_nil)) (by rfl))
      (pss_cons (ps_while PassesOwn.never (pt_cmpR op_ne (pv 1) pe_int (nomark _)) (pss_one (ps_par (i := 0) (j := 1) (by rfl) nd rfl rfl (by decide) rfl rfl (pa_cons (pv 1) (pa_cons (pe_op op_sub (pv 0) (pe_op op_mulW (pe_op op_fdivAny (pv 0) (pv 1)) (pv 1))) pa_nil)) (by rfl))))
      (pss_one (ps_ret (pv 0))))), ?_⟩
    refine ⟨_, rfl, a, rfl, _, rfl, b, rfl, _, _, rfl, ?_⟩
    rw [abs_eq, abs_eq]
    first | refine sigN [some (.int ((a.natAbs : Int))), some (.int ((b.natAbs : Int)))] (by rfl) ?_ | refine sig [some (.int ((a.natAbs : Int))), some (.int ((b.natAbs : Int)))] (by rfl) ?_
    have na : B 8200 (a.natAbs : Int) := by
      unfold B at *
      omega
    have nb : B 8200 (b.natAbs : Int) := by
      unfold B at *
      omega
    refine while_by (fun σ H2 => ∃ x y : Int, σ = [some (.int x), some (.int y)] ∧ H2 = H ∧ 0 ≤ x ∧ 0 ≤ y ∧ Nat.gcd x.natAbs y.natAbs = Nat.gcd a.natAbs b.natAbs ∧ B 8200 x ∧ B 8200 y)
      (fun σ _ => match σ with | [_, some (.int y)] => y.natAbs | _ => 0) ⟨_, _, rfl, rfl, by omega, by omega, by rw [Int.natAbs_natCast, Int.natAbs_natCast], na, nb⟩ ?_ ?_
    · rintro σ H2 ⟨x, y, rfl, rfl, h1, h2, h3, h4, h5⟩
      refine ⟨_, rfl, rfl, _, rfl, ?_⟩
      rw [dec_int]
      by_cases h0 : y = 0
      · subst h0
        refine iteN (by simp) ?_
        refine ⟨_, rfl, ?_⟩
        rw [← h3] at q
        have e : ((Nat.gcd x.natAbs (0 : Int).natAbs : Nat) : Int) = x := by
          rw [show (0 : Int).natAbs = 0 from rfl, Nat.gcd_zero_right]
          omega
        rw [e] at q
        exact q
      · refine iteY (by simp [h0]) ?_
        obtain ⟨g1, g2, g3⟩ := gcd_turn h1 h2 h0
        have d1 : B 8200 (x.fdiv y) := by
          rw [Int.fdiv_eq_ediv_of_nonneg x h2]
          have e1 : 0 ≤ x / y := Int.ediv_nonneg h1 h2
          have e2 : x / y ≤ x := Int.ediv_le_self y h1
          unfold B at *
          omega
        refine ⟨_, rfl, _, rfl, _, rfl, _, rfl, x, y, rfl, rfl, div_any h0 h5 (by decide), _, rfl, _, _, rfl, rfl, d1.mulW h5 (by decide), _, _, rfl, rfl, _, _, rfl, ?_⟩
        have g4 : B 8200 (x - x.fdiv y * y) := by
          unfold B at *
          omega
        exact ⟨⟨_, _, rfl, rfl, h2, g1, g3.trans h3, h5, g4⟩, g2⟩
    · rintro σ H2 Q1 Q2 i ⟨v, hv, hs, k, e, z⟩
      exact ⟨v, hv, hs, k, e, i _ _ z⟩
/-! ### cut -/
def sp_law_cut : PySem.W.Frag → Sp := spCut
abbrev s__law_cut : Stmt := topS 42
theorem sc__law_cut : FnScope ["n", "d", "part"] ["n", "d"] (defScope s__law_cut) := ⟨rfl, rfl, rfl, by decide +kernel, rfl, by decide +kernel, by decide +kernel⟩
theorem k_law_cut (T : Tx K mg) (D : Df K mg "_law_cut" s__law_cut ["n", "d"]) (c_law_common : Kl P w K mg base 1 "_law_common" (sp_law_common K)) : Kl P w K mg base 2 "_law_cut" (sp_law_cut K) := by
  have nd := sc__law_cut.nd
  refine Kl.by_body D sc__law_cut (fun vs H Q E h => ?_) (fun f cdv A outer s H vs Q E hr h => ?_)
  · obtain ⟨_, _, rfl, _⟩ := h
    rfl
  · obtain ⟨n, d, rfl, h0, hn, hd, q⟩ := h
    have hu1 := hu_of hr
    refine ⟨_, (pss_cons (ps_set (i := 2) nd rfl (by first | exact Or.inl rfl | exact Or.inr rfl) (pe_k c_law_common  hr (by decide) (by rfl) (pa_cons (pv 0) (pa_cons (pv 1) pa_nil))))
      (pss_cons (ps_set (i := 2) nd rfl (by first | exact Or.inl rfl | exact Or.inr rfl) (pe_ifExp (pt_cmpR op_gt (pv 1) pe_int (nomark _)) (pv 2) (pe_un un_neg (pv 2))))
      (pss_one (ps_ret (pe_tup (pa_cons (pe_op op_fdivAny (pv 0) (pv 2)) (pa_cons (pe_op op_fdivAny (pv 1) (pv 2)) pa_nil))))))), ?_⟩
    refine ⟨_, rfl, _, rfl, n, d, rfl, hn, hd, ?_⟩
    have hs : sg n d ≠ 0 := sg_ne h0
    have c1 : CDivAny n (sg n d) := div_any hs (sg_B h0 hd) (by decide)
    have c2 : CDivAny d (sg n d) := div_any hs (sg_B h0 hd) (by decide)
    rw [← fq_div h0] at q
    refine ⟨_, rfl, _, _, rfl, rfl, _, rfl, ite2 (fun e => ?_) (fun e => ?_)⟩
    · have e' : 0 < d := of_decide_eq_true e
      have es : sg n d = ((Nat.gcd n.natAbs d.natAbs : Nat) : Int) := if_neg (by omega)
      refine ⟨_, rfl, ?_⟩
      refine ⟨_, rfl, _, rfl, n, _, rfl, rfl, es ▸ c1, _, rfl, _, rfl, d, _, rfl, rfl, es ▸ c2, (by show 2 ≤ sizeLine; decide), fun t nt => ?_⟩
      rw [es] at q
      exact q t nt
    · have e' : ¬ 0 < d := fun z => e (decide_eq_true z)
      have es : sg n d = -((Nat.gcd n.natAbs d.natAbs : Nat) : Int) := if_pos (by omega)
      refine ⟨_, rfl, _, rfl, ?_⟩
      refine ⟨_, rfl, _, rfl, n, _, rfl, rfl, es ▸ c1, _, rfl, _, rfl, d, _, rfl, rfl, es ▸ c2, (by show 2 ≤ sizeLine; decide), fun t nt => ?_⟩
      rw [es] at q
      exact q t nt
/-! ### the law's sums -/
def sp_law_plus : PySem.W.Frag → Sp := spBin2 (fun a b => True) (fun a b => a + b)
abbrev s__law_plus : Stmt := topS 43
theorem sc__law_plus : FnScope ["f", "g"] ["f", "g"] (defScope s__law_plus) := ⟨rfl, rfl, rfl, by decide +kernel, rfl, by decide +kernel, by decide +kernel⟩
theorem k_law_plus (T : Tx K mg) (D : Df K mg "_law_plus" s__law_plus ["f", "g"]) (c_law_cut : Kl P w K mg base 2 "_law_cut" (sp_law_cut K)) : Kl P w K mg base 3 "_law_plus" (sp_law_plus K) := by
  have nd := sc__law_plus.nd
  refine Kl.by_body D sc__law_plus (fun vs H Q E h => ?_) (fun f cdv A outer s H vs Q E hr h => ?_)
  · obtain ⟨_, _, _, _, _, _, rfl, _⟩ := h
    rfl
  · obtain ⟨f, g, a, b, m, n, rfl, hf, hg, ha, hb, hmn, h0, q⟩ := h
    have hu1 := hu_of hr
    refine ⟨_, (pss_one (ps_ret (pe_k c_law_cut  hr (by decide) (by rfl) (pa_cons (pe_op op_add (pe_op op_mulW (pe_ix ix_tup (pv 0) pe_int (fun _ _ => rfl)) (pe_ix ix_tup (pv 1) pe_int (fun _ _ => rfl))) (pe_op op_mulW (pe_ix ix_tup (pv 1) pe_int (fun _ _ => rfl)) (pe_ix ix_tup (pv 0) pe_int (fun _ _ => rfl)))) (pa_cons (pe_op op_mulW (pe_ix ix_tup (pv 0) pe_int (fun _ _ => rfl)) (pe_ix ix_tup (pv 1) pe_int (fun _ _ => rfl))) pa_nil))))), ?_⟩
    refine ⟨.ref f, rfl, f, _, 0, .int a.num, rfl, rfl, hf, rfl, .ref g, rfl, g, _, 1, .int b.den, rfl, rfl, hg, rfl, _, _, rfl, rfl, (B.mulW ha.n hb.d (by omega)), .ref g, rfl, g, _, 0, .int b.num, rfl, rfl, hg, rfl, .ref f, rfl, f, _, 1, .int a.den, rfl, rfl, hf, rfl, _, _, rfl, rfl, (B.mulW hb.n ha.d (by omega)), _, _, rfl, rfl, .ref f, rfl, f, _, 1, .int a.den, rfl, rfl, hf, rfl, .ref g, rfl, g, _, 1, .int b.den, rfl, rfl, hg, rfl, _, _, rfl, rfl, (B.mulW ha.d hb.d (by omega)), _, _, rfl, (mul_ne (den_ne a) (den_ne b)), ((B.mul ha.n hb.d).add (B.mul hb.n ha.d)).up (by omega), (B.mul ha.d hb.d).up (by omega), fun t nt => ?_⟩
    rw [fr_add a b]
    exact q t nt
def sp_law_less : PySem.W.Frag → Sp := spBin2 (fun a b => True) (fun a b => a - b)
abbrev s__law_less : Stmt := topS 44
theorem sc__law_less : FnScope ["f", "g"] ["f", "g"] (defScope s__law_less) := ⟨rfl, rfl, rfl, by decide +kernel, rfl, by decide +kernel, by decide +kernel⟩
theorem k_law_less (T : Tx K mg) (D : Df K mg "_law_less" s__law_less ["f", "g"]) (c_law_cut : Kl P w K mg base 2 "_law_cut" (sp_law_cut K)) : Kl P w K mg base 3 "_law_less" (sp_law_less K) := by
  have nd := sc__law_less.nd
  refine Kl.by_body D sc__law_less (fun vs H Q E h => ?_) (fun f cdv A outer s H vs Q E hr h => ?_)
  · obtain ⟨_, _, _, _, _, _, rfl, _⟩ := h
    rfl
  · obtain ⟨f, g, a, b, m, n, rfl, hf, hg, ha, hb, hmn, h0, q⟩ := h
    have hu1 := hu_of hr
    refine ⟨_, (pss_one (ps_ret (pe_k c_law_cut  hr (by decide) (by rfl) (pa_cons (pe_op op_sub (pe_op op_mulW (pe_ix ix_tup (pv 0) pe_int (fun _ _ => rfl)) (pe_ix ix_tup (pv 1) pe_int (fun _ _ => rfl))) (pe_op op_mulW (pe_ix ix_tup (pv 1) pe_int (fun _ _ => rfl)) (pe_ix ix_tup (pv 0) pe_int (fun _ _ => rfl)))) (pa_cons (pe_op op_mulW (pe_ix ix_tup (pv 0) pe_int (fun _ _ => rfl)) (pe_ix ix_tup (pv 1) pe_int (fun _ _ => rfl))) pa_nil))))), ?_⟩
    refine ⟨.ref f, rfl, f, _, 0, .int a.num, rfl, rfl, hf, rfl, .ref g, rfl, g, _, 1, .int b.den, rfl, rfl, hg, rfl, _, _, rfl, rfl, (B.mulW ha.n hb.d (by omega)), .ref g, rfl, g, _, 0, .int b.num, rfl, rfl, hg, rfl, .ref f, rfl, f, _, 1, .int a.den, rfl, rfl, hf, rfl, _, _, rfl, rfl, (B.mulW hb.n ha.d (by omega)), _, _, rfl, rfl, .ref f, rfl, f, _, 1, .int a.den, rfl, rfl, hf, rfl, .ref g, rfl, g, _, 1, .int b.den, rfl, rfl, hg, rfl, _, _, rfl, rfl, (B.mulW ha.d hb.d (by omega)), _, _, rfl, (mul_ne (den_ne a) (den_ne b)), ((B.mul ha.n hb.d).sub (B.mul hb.n ha.d)).up (by omega), (B.mul ha.d hb.d).up (by omega), fun t nt => ?_⟩
    rw [fr_sub a b]
    exact q t nt
def sp_law_by : PySem.W.Frag → Sp := spBin2 (fun a b => True) (fun a b => a * b)
abbrev s__law_by : Stmt := topS 45
theorem sc__law_by : FnScope ["f", "g"] ["f", "g"] (defScope s__law_by) := ⟨rfl, rfl, rfl, by decide +kernel, rfl, by decide +kernel, by decide +kernel⟩
theorem k_law_by (T : Tx K mg) (D : Df K mg "_law_by" s__law_by ["f", "g"]) (c_law_cut : Kl P w K mg base 2 "_law_cut" (sp_law_cut K)) : Kl P w K mg base 3 "_law_by" (sp_law_by K) := by
  have nd := sc__law_by.nd
  refine Kl.by_body D sc__law_by (fun vs H Q E h => ?_) (fun f cdv A outer s H vs Q E hr h => ?_)
  · obtain ⟨_, _, _, _, _, _, rfl, _⟩ := h
    rfl
  · obtain ⟨f, g, a, b, m, n, rfl, hf, hg, ha, hb, hmn, h0, q⟩ := h
    have hu1 := hu_of hr
    refine ⟨_, (pss_one (ps_ret (pe_k c_law_cut  hr (by decide) (by rfl) (pa_cons (pe_op op_mulW (pe_ix ix_tup (pv 0) pe_int (fun _ _ => rfl)) (pe_ix ix_tup (pv 1) pe_int (fun _ _ => rfl))) (pa_cons (pe_op op_mulW (pe_ix ix_tup (pv 0) pe_int (fun _ _ => rfl)) (pe_ix ix_tup (pv 1) pe_int (fun _ _ => rfl))) pa_nil))))), ?_⟩
    refine ⟨.ref f, rfl, f, _, 0, .int a.num, rfl, rfl, hf, rfl, .ref g, rfl, g, _, 0, .int b.num, rfl, rfl, hg, rfl, _, _, rfl, rfl, (B.mulW ha.n hb.n (by omega)), .ref f, rfl, f, _, 1, .int a.den, rfl, rfl, hf, rfl, .ref g, rfl, g, _, 1, .int b.den, rfl, rfl, hg, rfl, _, _, rfl, rfl, (B.mulW ha.d hb.d (by omega)), _, _, rfl, (mul_ne (den_ne a) (den_ne b)), (B.mul ha.n hb.n).up (by omega), (B.mul ha.d hb.d).up (by omega), fun t nt => ?_⟩
    rw [fr_mul a b]
    exact q t nt
def sp_law_over : PySem.W.Frag → Sp := spBin2 (fun a b => b ≠ 0) (fun a b => a / b)
abbrev s__law_over : Stmt := topS 46
theorem sc__law_over : FnScope ["f", "g"] ["f", "g"] (defScope s__law_over) := ⟨rfl, rfl, rfl, by decide +kernel, rfl, by decide +kernel, by decide +kernel⟩
theorem k_law_over (T : Tx K mg) (D : Df K mg "_law_over" s__law_over ["f", "g"]) (c_law_cut : Kl P w K mg base 2 "_law_cut" (sp_law_cut K)) : Kl P w K mg base 3 "_law_over" (sp_law_over K) := by
  have nd := sc__law_over.nd
  refine Kl.by_body D sc__law_over (fun vs H Q E h => ?_) (fun f cdv A outer s H vs Q E hr h => ?_)
  · obtain ⟨_, _, _, _, _, _, rfl, _⟩ := h
    rfl
  · obtain ⟨f, g, a, b, m, n, rfl, hf, hg, ha, hb, hmn, h0, q⟩ := h
    have hu1 := hu_of hr
    refine ⟨_, (pss_one (ps_ret (pe_k c_law_cut  hr (by decide) (by rfl) (pa_cons (pe_op op_mulW (pe_ix ix_tup (pv 0) pe_int (fun _ _ => rfl)) (pe_ix ix_tup (pv 1) pe_int (fun _ _ => rfl))) (pa_cons (pe_op op_mulW (pe_ix ix_tup (pv 0) pe_int (fun _ _ => rfl)) (pe_ix ix_tup (pv 1) pe_int (fun _ _ => rfl))) pa_nil))))), ?_⟩
    refine ⟨.ref f, rfl, f, _, 0, .int a.num, rfl, rfl, hf, rfl, .ref g, rfl, g, _, 1, .int b.den, rfl, rfl, hg, rfl, _, _, rfl, rfl, (B.mulW ha.n hb.d (by omega)), .ref f, rfl, f, _, 1, .int a.den, rfl, rfl, hf, rfl, .ref g, rfl, g, _, 0, .int b.num, rfl, rfl, hg, rfl, _, _, rfl, rfl, (B.mulW ha.d hb.n (by omega)), _, _, rfl, (mul_ne (den_ne a) (num_ne h0)), (B.mul ha.n hb.d).up (by omega), (B.mul ha.d hb.n).up (by omega), fun t nt => ?_⟩
    rw [fr_div a b h0]
    exact q t nt
/-! ### the law's roots -/
def sp_law_root (K : PySem.W.Frag) : Sp := fun vs H Q _ => ∃ n : Int, vs = [.int n] ∧ 0 ≤ n ∧ B 3900 n ∧ ∀ H' r, Same H H' → 0 ≤ r → r * r ≤ n → n < (r + 1) * (r + 1) → Q (.int r) H'
theorem sq_le_self {a n : Int} (h0 : 0 ≤ a) (h : a * a ≤ n) : a ≤ n := by
  rcases (show a < 1 ∨ 1 ≤ a by omega) with e | e
  · have : a = 0 := by omega
    subst this
    exact h
  · have := Int.mul_le_mul_of_nonneg_right e h0
    omega
abbrev s__law_root : Stmt := topS 41
theorem sc__law_root : FnScope ["n", "low", "high", "middle"] ["n"] (defScope s__law_root) := ⟨rfl, rfl, rfl, by decide +kernel, rfl, by decide +kernel, by decide +kernel⟩
theorem k_law_root (T : Tx K mg) (D : Df K mg "_law_root" s__law_root ["n"])  : Kl P w K mg base 1 "_law_root" (sp_law_root K) := by
  have nd := sc__law_root.nd
  refine Kl.by_body D sc__law_root (fun vs H Q E h => ?_) (fun f cdv A outer s H vs Q E hr h => ?_)
  · obtain ⟨_, rfl, _⟩ := h
    rfl
  · obtain ⟨n, rfl, h0, hB, q⟩ := h
    have hu1 := hu_of hr
    refine ⟨_, (pss_cons (ps_asg (pe_tup (pa_cons pe_int (pa_cons pe_int pa_nil))) (pg_tup rfl (pgs_cons (pg_name (i := 1) nd rfl (by first | exact Or.inl rfl | exact Or.inr rfl)) (pgs_cons (pg_name (i := 2) nd rfl (by first | exact Or.inl rfl | exact Or.inr rfl)) pgs_nil))))
      (pss_cons (ps_while PassesOwn.never (pt_cmpR op_le (pe_op op_mulW (pv 2) (pv 2)) (pv 0) (nomark _)) (pss_one (ps_par (i := 1) (j := 2) (by rfl) nd rfl rfl (by decide) rfl rfl (pa_cons (pv 2) (pa_cons (pe_op op_mul pe_int (pv 2)) pa_nil)) (by rfl))))
      (pss_cons (ps_while PassesOwn.never (pt_cmpR op_gt (pe_op op_sub (pv 2) (pv 1)) pe_int (nomark _)) (pss_cons (ps_set (i := 3) nd rfl (by first | exact Or.inl rfl | exact Or.inr rfl) (pe_op op_fdiv (pe_op op_add (pv 1) (pv 2)) pe_int))
      (pss_one (ps_asg (pe_ifExp (pt_cmpR op_le (pe_op op_mulW (pv 3) (pv 3)) (pv 0) (nomark _)) (pe_tup (pa_cons (pv 3) (pa_cons (pv 2) pa_nil))) (pe_tup (pa_cons (pv 1) (pa_cons (pv 3) pa_nil)))) (pg_tup rfl (pgs_cons (pg_name (i := 1) nd rfl (by first | exact Or.inl rfl | exact Or.inr rfl)) (pgs_cons (pg_name (i := 2) nd rfl (by first | exact Or.inl rfl | exact Or.inr rfl)) pgs_nil)))))))
      (pss_one (ps_ret (pv 1)))))), ?_⟩
    refine ⟨(by show 2 ≤ sizeLine; decide), fun t0 nt0 => ?_⟩
    have s1 := Same.new (H := H) (p := t0) (o := .tup [.int 0, .int 1]) nt0
    have g1 : upd H t0 (.tup [.int 0, .int 1]) t0 = some (.tup [.int 0, .int 1]) := upd_same
    generalize upd H t0 (.tup [.int 0, .int 1]) = H1 at s1 g1 ⊢
    refine ⟨t0, _, rfl, tup_of g1, rfl, _, _, rfl, _, _, rfl, rfl, ?_⟩
    first | refine sigN [some (.int (n)), some (.int (0)), some (.int (1)), none] (by rfl) ?_ | refine sig [some (.int (n)), some (.int (0)), some (.int (1)), none] (by rfl) ?_
    refine while_by (fun σ H2 => H2 = H1 ∧ ∃ lo hi : Int, σ = [some (.int n), some (.int lo), some (.int hi), none] ∧ 0 ≤ lo ∧ lo < hi ∧ hi ≤ 2 * n + 1 ∧ lo * lo ≤ n)
      (fun σ _ => match σ with | [_, _, some (.int hi), _] => (n + 1 - hi).toNat | _ => 0) ⟨rfl, 0, 1, rfl, by decide, by decide, by omega, by omega⟩ ?_ ?_
    · rintro σ H2 ⟨rfl, lo, hi, rfl, l0, lh, hb, ll⟩
      have hiB : B 3902 hi := by
        unfold Gd.B at *
        omega
      refine ⟨_, rfl, _, rfl, _, _, rfl, rfl, hiB.mulW hiB (by decide), _, rfl, _, _, rfl, rfl, _, rfl, ?_⟩
      by_cases hh : hi * hi ≤ n
      · refine iteY (decide_eq_true hh) ?_
        have h1 := sq_le_self (show 0 ≤ hi by omega) hh
        refine ⟨_, rfl, _, rfl, _, _, rfl, rfl, (Or.inl ⟨by decide, by decide⟩), _, _, rfl, ?_⟩
        refine ⟨⟨rfl, hi, 2 * hi, rfl, by omega, by omega, by omega, hh⟩, ?_⟩
        show (n + 1 - 2 * hi).toNat < (n + 1 - hi).toNat
        omega
      · refine iteN (by simpa using hh) ?_
        have hg : n < hi * hi := by omega
        refine while_by (fun σ H3 => Same H2 H3 ∧ ∃ (lo hi : Int) (v : Option V), σ = [some (.int n), some (.int lo), some (.int hi), v] ∧ 0 ≤ lo ∧ lo < hi ∧ lo * lo ≤ n ∧ n < hi * hi ∧ B 3902 hi)
          (fun σ _ => match σ with | [_, some (.int lo), some (.int hi), _] => (hi - lo).toNat | _ => 0) ⟨Same.refl _, lo, hi, none, rfl, l0, lh, ll, hg, hiB⟩ ?_ ?_
        · rintro σ H3 ⟨s3, lo, hi, v, rfl, l0, lh, ll, hg, hiB⟩
          refine ⟨_, rfl, _, rfl, _, _, rfl, rfl, _, _, rfl, rfl, _, rfl, ?_⟩
          by_cases hh : 1 < hi - lo
          · refine iteY (decide_eq_true hh) ?_
            refine ⟨_, rfl, _, rfl, _, _, rfl, rfl, _, _, rfl, rfl, ⟨by decide, by decide⟩, ?_⟩
            first | refine sigN [some (.int (n)), some (.int (lo)), some (.int (hi)), some (.int ((lo + hi) / 2))] (by rfl) ?_ | refine sig [some (.int (n)), some (.int (lo)), some (.int (hi)), some (.int ((lo + hi) / 2))] (by rfl) ?_
            have m1 : lo < (lo + hi) / 2 := by omega
            have m2 : (lo + hi) / 2 < hi := by omega
            generalize (lo + hi) / 2 = mid at m1 m2 ⊢
            have mB : B 3902 mid := by
              unfold Gd.B at *
              omega
            refine ⟨_, rfl, _, rfl, _, _, rfl, rfl, mB.mulW mB (by decide), _, rfl, _, _, rfl, rfl, _, rfl, ite2 (fun e => ?_) (fun e => ?_)⟩
            · have e' : mid * mid ≤ n := of_decide_eq_true e
              refine ⟨_, rfl, _, rfl, (by show 2 ≤ sizeLine; decide), fun t nt => ?_⟩
              refine ⟨t, _, rfl, tup_of upd_same, rfl, _, _, rfl, _, _, rfl, rfl, ?_⟩
              refine ⟨⟨Same.put s3 (s3.free nt), mid, hi, _, rfl, by omega, m2, e', hg, hiB⟩, ?_⟩
              show (hi - mid).toNat < (hi - lo).toNat
              omega
            · have e' : ¬ mid * mid ≤ n := fun z => e (decide_eq_true z)
              refine ⟨_, rfl, _, rfl, (by show 2 ≤ sizeLine; decide), fun t nt => ?_⟩
              refine ⟨t, _, rfl, tup_of upd_same, rfl, _, _, rfl, _, _, rfl, rfl, ?_⟩
              refine ⟨⟨Same.put s3 (s3.free nt), lo, mid, _, rfl, l0, m1, ll, by omega, mB⟩, ?_⟩
              show (mid - lo).toNat < (hi - lo).toNat
              omega
          · refine iteN (by simpa using hh) ?_
            have e : hi = lo + 1 := by omega
            subst e
            exact ⟨_, rfl, q _ lo (s1.trans s3) l0 ll hg⟩
        · rintro σ H3 Q1 Q2 i ⟨v, hv, v2, hv2, x, y, e1, e2, x2, y2, e3, e4, k, e, z⟩
          exact ⟨v, hv, v2, hv2, x, y, e1, e2, x2, y2, e3, e4, k, e, i _ _ z⟩
    · rintro σ H2 Q1 Q2 i ⟨v, hv, v2, hv2, x, y, e1, e2, c, v3, hv3, x2, y2, e3, e4, k, e, z⟩
      exact ⟨v, hv, v2, hv2, x, y, e1, e2, c, v3, hv3, x2, y2, e3, e4, k, e, i _ _ z⟩
end
end K55
set_option Elab.async false
set_option linter.all false
set_option maxRecDepth 100000
set_option maxHeartbeats 4000000
namespace K55
open PySem PySem.Spec PyProof.Rows L2 Gd QM
section
variable {P : Program} {w : World} {K : PySem.W.Frag} {mg : Str → Option Value} {base : Heap}
/-! ### one draw -/
def sp_law_draw (K : PySem.W.Frag) : Sp := fun vs H Q _ => ∃ (m cl : Addr) (b : Int) (n : Nat), vs = [.ref m, .int b] ∧ 0 < b ∧ b < 1073741824 ∧ n ≤ 1000000 ∧ MAt H m cl n ∧ ∀ H' r, But m H H' → MAt H' m cl (n + 1) → 0 ≤ r → r < b → Q (.int r) H'
abbrev s__law_draw : Stmt := topS 36
theorem sc__law_draw : FnScope ["m", "below", "found", "spot", "cells", "added_v", "cell", "blend"] ["m", "below"] (defScope s__law_draw) := ⟨rfl, rfl, rfl, by decide +kernel, rfl, by decide +kernel, by decide +kernel⟩
theorem k_law_draw (T : Tx K mg) (D : Df K mg "_law_draw" s__law_draw ["m", "below"])  : Kl P w K mg base 1 "_law_draw" (sp_law_draw K) := by
  have nd := sc__law_draw.nd
  refine Kl.by_body D sc__law_draw (fun vs H Q E h => ?_) (fun f cdv A outer s H vs Q E hr h => ?_)
  · obtain ⟨_, _, _, _, rfl, _⟩ := h
    rfl
  · obtain ⟨m, c, b, n, rfl, hb0, hb1, hn, ⟨L, s0, cs, k, hm, hk, hc, hl⟩, q⟩ := h
    have hu1 := hu_of hr
    refine ⟨_, (pss_cons (ps_if (pt_cmpR op_gt (pe_dget hu1 (pv 0) pe_str (fun _ _ => rfl)) pe_int (nomark _)) (pss_cons (ps_set (i := 2) nd rfl (by first | exact Or.inl rfl | exact Or.inr rfl) (pe_op op_mod (pe_callTy call_intI (by rfl) T.int (by decide +kernel) (pa_cons (pe_dget hu1 (pv 0) pe_str (fun _ _ => rfl)) pa_nil)) (pv 1)))
      (pss_cons (ps_dput hu1 (pv 0) pe_str (pe_op op_fdivN (pe_dget hu1 (pv 0) pe_str (fun _ _ => rfl)) (pv 1)) rfl)
      (pss_one (ps_ret (pv 2))))) pss_nil)
      (pss_cons (ps_set (i := 3) nd rfl (by first | exact Or.inl rfl | exact Or.inr rfl) (pe_dget hu1 (pv 0) pe_str (fun _ _ => rfl)))
      (pss_cons (ps_dput hu1 (pv 0) pe_str (pe_op op_add (pv 3) pe_int) rfl)
      (pss_cons (ps_par (i := 4) (j := 5) (by rfl) nd rfl rfl (by decide) rfl rfl (pa_cons (pe_dget hu1 (pv 0) pe_str (fun _ _ => rfl)) (pa_cons (pe_op op_add (pe_dget hu1 (pv 0) pe_str (fun _ _ => rfl)) (pe_op op_mulW (pe_op op_mul pe_int (pv 3)) (pv 3))) pa_nil)) (by rfl))
      (pss_cons (ps_set (i := 6) nd rfl (by first | exact Or.inl rfl | exact Or.inr rfl) (pe_ix ix_list (pv 4) (pe_op op_mod (pe_callTy call_intI (by rfl) T.int (by decide +kernel) (pa_cons (pv 3) pa_nil)) (pe_callB call_len_seq (by rfl) T.len (by decide +kernel) (pa_cons (pv 4) pa_nil))) (fun _ _ => rfl)))
      (pss_cons (ps_set (i := 7) nd rfl (by first | exact Or.inl rfl | exact Or.inr rfl) (pe_op op_mod (pe_callTy call_intI (by rfl) T.int (by decide +kernel) (pa_cons (pe_op op_add (pe_op op_mul (pv 6) (pe_op op_add (pe_op op_mul pe_int (pv 3)) pe_int)) (pv 5)) pa_nil)) pe_int))
      (pss_cons (ps_set (i := 7) nd rfl (by first | exact Or.inl rfl | exact Or.inr rfl) (pe_op op_mod (pe_callTy call_intI (by rfl) T.int (by decide +kernel) (pa_cons (pe_op op_add (pe_op op_add (pe_op op_mul (pv 7) (pv 7)) (pe_op op_mul pe_int (pv 3))) (pe_dget hu1 (pv 0) pe_str (fun _ _ => rfl))) pa_nil)) pe_int))
      (pss_one (ps_ret (pe_op op_mod (pe_op op_fdiv (pe_op op_mod (pe_callTy call_intI (by rfl) T.int (by decide +kernel) (pa_cons (pe_op op_add (pe_op op_mul (pv 7) pe_int) (pv 3)) pa_nil)) pe_int) pe_int) (pv 1))))))))))), ?_⟩
    have gL : DGet H m (.str "left") (some (.int L)) := m4_left (L := L) ▸ DGet.k (k := Sum.inr "left") hm
    have ncm : c ≠ m := ne_of hc hm (by intro z; cases z)
    refine ⟨_, rfl, m, _, rfl, gL, _, _, rfl, rfl, _, rfl, ite2 (fun e => ?_) (fun e => ?_)⟩
    · refine ⟨_, rfl, m, _, rfl, gL, _, rfl, _, rfl, _, _, rfl, rfl, hb0, ?_⟩
      refine ⟨_, rfl, m, _, rfl, gL, _, rfl, _, _, rfl, rfl, ⟨by omega, by omega⟩, _, rfl, m, _, rfl, DPut.k (k := Sum.inr "left") hm (small1000 (by show 4 ≤ 1000; decide)), ?_⟩
      rw [m4_putL]
      refine ⟨_, rfl, ?_⟩
      refine q _ _ But.upd ⟨_, s0, cs, k, upd_same, by omega, ?_, hl⟩ (Int.emod_nonneg _ (by omega)) (Int.emod_lt_of_pos _ hb0)
      rw [upd_ne ncm]
      exact hc
    · have gS : DGet H m (.str "spot") (some (.int k)) := m4_spot (n := k) ▸ DGet.k (k := Sum.inr "spot") hm
      refine ⟨_, rfl, m, _, rfl, gS, ?_⟩
      refine ⟨_, rfl, _, _, rfl, rfl, _, rfl, m, _, rfl, DPut.k (k := Sum.inr "spot") hm (small1000 (by show 4 ≤ 1000; decide)), ?_⟩
      rw [m4_putS]
      have hm2 : (upd H m (HO.dK (mk4 L s0 c (k + 1)))) m = some (.dK (mk4 L s0 c (k + 1))) := upd_same
      have hc2 : (upd H m (HO.dK (mk4 L s0 c (k + 1)))) c = some (.lst (cs.map V.int)) := by
        rw [upd_ne ncm]
        exact hc
      have bt : But m H (upd H m (HO.dK (mk4 L s0 c (k + 1)))) := But.upd
      generalize upd H m (HO.dK (mk4 L s0 c (k + 1))) = H2 at hm2 hc2 bt ⊢
      have gC : DGet H2 m (.str "cells") (some (.ref c)) := m4_cells (c := c) ▸ DGet.k (k := Sum.inr "cells") hm2
      have gE : DGet H2 m (.str "seed") (some (.int s0)) := m4_seed (s := s0) ▸ DGet.k (k := Sum.inr "seed") hm2
      have bk : B 20 (k : Int) := by
        unfold B
        omega
      refine ⟨_, rfl, m, _, rfl, gC, _, rfl, m, _, rfl, gE, _, rfl, _, _, rfl, rfl, (Or.inl ⟨by decide, by decide⟩), _, rfl, _, _, rfl, rfl, ((B.lit (n := 20) (by decide)).mul bk).mulW bk (by decide), _, _, rfl, rfl, _, _, rfl, ?_⟩
      have hlz : (0 : Int) < ((cs.map V.int).length : Int) := by
        rw [List.length_map]
        omega
      have hix : ∃ z : Int, atI (cs.map V.int) ((k : Int) % ((cs.map V.int).length : Int)) = some (.int z) := by
        rw [List.length_map]
        have h1 : k % cs.length < cs.length := Nat.mod_lt _ hl
        refine ⟨cs[k % cs.length], ?_⟩
        rw [← Int.natCast_emod]
        refine atI_nat ?_
        rw [List.getElem?_map, List.getElem?_eq_getElem h1]
        rfl
      obtain ⟨z, hz⟩ := hix
      refine ⟨_, rfl, _, rfl, _, rfl, _, rfl, c, _, rfl, .inl (.inl (.inl hc2)), _, _, rfl, rfl, hlz, c, _, _, _, rfl, rfl, .inl (.inl hc2), hz, ?_⟩
      have bk2 : B 30 (2 * (k : Int) + 3) := by
        unfold B
        omega
      refine ⟨_, rfl, _, rfl, _, _, rfl, rfl, (Or.inl ⟨by decide, by decide⟩), _, _, rfl, rfl, _, _, rfl, rfl, bk2.mulR (by decide), _, rfl, _, _, rfl, rfl, _, rfl, _, _, rfl, rfl, (by show (0 : Int) < 2147483647; decide), ?_⟩
      have be : ∀ y : Int, B 32 (y % 2147483647) := fun y => by
        have h1 := Int.emod_nonneg y (show (2147483647 : Int) ≠ 0 by decide)
        have h2 := Int.emod_lt_of_pos y (show (0 : Int) < 2147483647 by decide)
        unfold B
        omega
      refine ⟨_, rfl, _, rfl, _, _, rfl, rfl, (be _).mulR (by decide), _, rfl, _, _, rfl, rfl, (Or.inl ⟨by decide, by decide⟩), _, _, rfl, rfl, _, rfl, m, _, rfl, gE, _, _, rfl, rfl, _, rfl, _, _, rfl, rfl, (by show (0 : Int) < 2147483629; decide), ?_⟩
      refine ⟨_, rfl, _, _, rfl, rfl, (Or.inr ⟨by decide, by decide⟩), _, rfl, _, _, rfl, rfl, _, rfl, _, _, rfl, rfl, (by show (0 : Int) < 2147483647; decide), _, _, rfl, rfl, ⟨by decide, by decide⟩, _, rfl, _, _, rfl, rfl, hb0, ?_⟩
      exact q _ _ bt ⟨L, s0, cs, k + 1, hm2, by omega, hc2, hl⟩ (Int.emod_nonneg _ (by omega)) (Int.emod_lt_of_pos _ hb0)
/-! ### one of some -/
def sp_law_of (K : PySem.W.Frag) : Sp := fun vs H Q _ => ∃ (m cl a : Addr) (xs : List V) (n : Nat), vs = [.ref m, .ref a] ∧ SqL K H a xs ∧ 0 < xs.length ∧ xs.length ≤ 1000 ∧ n ≤ 1000000 ∧ MAt H m cl n ∧ ∀ H' x, But m H H' → MAt H' m cl (n + 1) → x ∈ xs → Q x H'
abbrev s__law_of : Stmt := topS 37
theorem sc__law_of : FnScope ["m", "some"] ["m", "some"] (defScope s__law_of) := ⟨rfl, rfl, rfl, by decide +kernel, rfl, by decide +kernel, by decide +kernel⟩
theorem k_law_of (T : Tx K mg) (D : Df K mg "_law_of" s__law_of ["m", "some"]) (c_law_draw : Kl P w K mg base 1 "_law_draw" (sp_law_draw K)) : Kl P w K mg base 2 "_law_of" (sp_law_of K) := by
  have nd := sc__law_of.nd
  refine Kl.by_body D sc__law_of (fun vs H Q E h => ?_) (fun f cdv A outer s H vs Q E hr h => ?_)
  · obtain ⟨_, _, _, _, _, rfl, _⟩ := h
    rfl
  · obtain ⟨m, cl, a, xs, n, rfl, hx, h0, h1, hn, hM, q⟩ := h
    have hu1 := hu_of hr
    refine ⟨_, (pss_one (ps_ret (pe_ix ix_list (pv 1) (pe_k c_law_draw  hr (by decide) (by rfl) (pa_cons (pv 0) (pa_cons (pe_callB call_len_seq (by rfl) T.len (by decide +kernel) (pa_cons (pv 1) pa_nil)) pa_nil))) (fun _ _ => rfl)))), ?_⟩
    refine ⟨.ref a, rfl, _, rfl, .ref a, rfl, a, xs, rfl, .inl hx, m, cl, _, n, rfl, by omega, by omega, hn, hM, fun H1 r b1 m1 r0 r1 => ?_⟩
    have hr1 : r.toNat < xs.length := by omega
    refine ⟨a, xs, r, xs[r.toNat], rfl, rfl, b1.seqL hM hx, ?_, q _ _ b1 m1 (List.getElem_mem hr1)⟩
    have key : atI xs ((r.toNat : Nat) : Int) = some xs[r.toNat] := atI_nat (List.getElem?_eq_getElem hr1)
    rw [show ((r.toNat : Nat) : Int) = r by omega] at key
    exact key
/-! ### between -/
def sp_law_between (K : PySem.W.Frag) : Sp := fun vs H Q _ => ∃ (m cl : Addr) (z : Int) (n : Nat), vs = [.ref m, .int z] ∧ 0 ≤ z ∧ z ≤ 100000 ∧ n ≤ 1000000 ∧ MAt H m cl n ∧ ∀ H' r, But m H H' → MAt H' m cl (n + 1) → -z ≤ r → r ≤ z → Q (.int r) H'
abbrev s__law_between : Stmt := topS 38
theorem sc__law_between : FnScope ["m", "size"] ["m", "size"] (defScope s__law_between) := ⟨rfl, rfl, rfl, by decide +kernel, rfl, by decide +kernel, by decide +kernel⟩
theorem k_law_between (T : Tx K mg) (D : Df K mg "_law_between" s__law_between ["m", "size"]) (c_law_draw : Kl P w K mg base 1 "_law_draw" (sp_law_draw K)) : Kl P w K mg base 2 "_law_between" (sp_law_between K) := by
  have nd := sc__law_between.nd
  refine Kl.by_body D sc__law_between (fun vs H Q E h => ?_) (fun f cdv A outer s H vs Q E hr h => ?_)
  · obtain ⟨_, _, _, _, rfl, _⟩ := h
    rfl
  · obtain ⟨m, cl, z, n, rfl, h0, h1, hn, hM, q⟩ := h
    have hu1 := hu_of hr
    refine ⟨_, (pss_one (ps_ret (pe_op op_sub (pe_k c_law_draw  hr (by decide) (by rfl) (pa_cons (pv 0) (pa_cons (pe_op op_add (pe_op op_mul pe_int (pv 1)) pe_int) pa_nil))) (pv 1)))), ?_⟩
    refine ⟨_, rfl, _, rfl, _, _, rfl, rfl, (Or.inl ⟨by decide, by decide⟩), _, _, rfl, rfl, m, cl, _, n, rfl, by omega, by omega, hn, hM, fun H1 r b1 m1 r0 r1 => ?_⟩
    refine ⟨_, rfl, _, _, rfl, rfl, ?_⟩
    exact q _ _ b1 m1 (by omega) (by omega)
/-! ### the state of a turn -/
def sp_law_begun (K : PySem.W.Frag) : Sp := fun vs H Q _ => ∃ (a : Addr) (k : Int) (ns : List Int), vs = [.ref a, .int k] ∧ SqL K H a (ns.map V.int) ∧ ns.length ≤ 63 ∧ 0 ≤ k ∧ k ≤ 100 ∧ ∀ H' m cl, Same H H' → H m = none → H cl = none → MAt H' m cl 0 → Q (.ref m) H'
theorem cut_int {ns : List Int} (lo hi : Option Int) : ∃ ms : List Int, cutV (ns.map V.int) lo hi = ms.map V.int ∧ ms.length ≤ ns.length := by
  unfold cutV
  refine ⟨(ns.drop (HT.sIx (ns.map V.int).length 0 lo)).take (HT.sIx (ns.map V.int).length (ns.map V.int).length hi - HT.sIx (ns.map V.int).length 0 lo), ?_, ?_⟩
  · rw [List.map_take, List.map_drop]
  · rw [List.length_take, List.length_drop]
    omega
abbrev s__law_begun : Stmt := topS 35
theorem sc__law_begun : FnScope ["script", "k", "cells", "great", "cell", "begun", "left"] ["script", "k"] (defScope s__law_begun) := ⟨rfl, rfl, rfl, by decide +kernel, rfl, by decide +kernel, by decide +kernel⟩
theorem k_law_begun (T : Tx K mg) (D : Df K mg "_law_begun" s__law_begun ["script", "k"])  : Kl P w K mg base 1 "_law_begun" (sp_law_begun K) := by
  have nd := sc__law_begun.nd
  refine Kl.by_body D sc__law_begun (fun vs H Q E h => ?_) (fun f cdv A outer s H vs Q E hr h => ?_)
  · obtain ⟨_, _, _, rfl, _⟩ := h
    rfl
  · obtain ⟨a, k, ns, rfl, hx, hl, hk0, hk1, q⟩ := h
    have hu1 := hu_of hr
    refine ⟨_, (pss_cons (ps_set (i := 2) nd rfl (by first | exact Or.inl rfl | exact Or.inr rfl) (pe_op op_cat (pe_slice sl_list (pv 0) (po_some (pv 1)) po_none) (pe_slice sl_list (pv 0) po_none (po_some (pv 1)))))
      (pss_cons (ps_setLc (i := 3) (own := [("cell", 4)]) (g := gName 4) rfl nd rfl rfl (sw_true rfl rfl rfl (by decide +kernel)) (pi_list (pv 0)) (blkOk_by (N := ["script", "k", "cells", "great", "cell", "begun", "left"]) (sc := defScope s__law_begun) (by decide +kernel)) (fun _ _ _ _ _ => (pg_name (i := 4) nd rfl (by first | exact Or.inl rfl | exact Or.inr rfl))) (fun _ _ _ _ _ => (pts_one (pt_cmpR op_ge (pv 4) (pe_op op_pow pe_int pe_int) (nomark _)))) (fun _ _ _ _ _ => (pv 4)))
      (pss_cons (ps_set (i := 5) nd rfl (by first | exact Or.inl rfl | exact Or.inr rfl) (pe_op op_add pe_int (pe_op op_mul pe_int (pv 1))))
      (pss_cons (ps_for PassesOwn.never rfl (pi_list (pv 2)) (pg_name (i := 4) nd rfl (by first | exact Or.inl rfl | exact Or.inr rfl)) (pss_one (ps_set (i := 5) nd rfl (by first | exact Or.inl rfl | exact Or.inr rfl) (pe_op op_mod (pe_callTy call_intI (by rfl) T.int (by decide +kernel) (pa_cons (pe_op op_add (pe_op op_mul (pv 5) pe_int) (pv 4)) pa_nil)) pe_int))))
      (pss_cons (ps_set (i := 6) nd rfl (by first | exact Or.inl rfl | exact Or.inr rfl) (pe_ifExp (pt_cmpR op_lt (pv 1) (pe_callB call_len_seq (by rfl) T.len (by decide +kernel) (pa_cons (pv 3) pa_nil)) (nomark _)) (pe_ix ix_list (pv 3) (pv 1) (fun _ _ => rfl)) pe_int))
      (pss_one (ps_ret (pe_disp (pps_cons pe_str (pv 6) (pps_cons pe_str (pv 5) (pps_cons pe_str (pe_op op_cat (pv 2) (pe_lst (pa_cons (pe_op op_add (pe_op op_mul pe_int (pv 1)) pe_int) pa_nil))) (pps_cons pe_str pe_int pps_nil)))) (by rfl) (by rfl) (fun z => by cases z) (by decide))))))))), ?_⟩
    obtain ⟨m1, e1, l1⟩ := cut_int (ns := ns) (some k) none
    obtain ⟨m2, e2, l2⟩ := cut_int (ns := ns) none (some k)
    refine ⟨.ref a, rfl, _, rfl, k, rfl, a, _, rfl, hx, fun p1 n1 => ?_⟩
    rw [e1]
    have s1 : Same H (upd H p1 (.lst (m1.map V.int))) := Same.new n1
    have g1 : (upd H p1 (.lst (m1.map V.int))) p1 = some (.lst (m1.map V.int)) := upd_same
    generalize upd H p1 (.lst (m1.map V.int)) = H1 at s1 g1 ⊢
    refine ⟨.ref a, rfl, _, rfl, k, rfl, a, _, rfl, s1.seq hx, fun p2 n2 => ?_⟩
    rw [e2]
    have s2 : Same H1 (upd H1 p2 (.lst (m2.map V.int))) := Same.new n2
    have g2 : (upd H1 p2 (.lst (m2.map V.int))) p2 = some (.lst (m2.map V.int)) := upd_same
    generalize upd H1 p2 (.lst (m2.map V.int)) = H2 at s2 g2 ⊢
    refine ⟨p1, p2, _, _, rfl, rfl, s2 _ _ g1, g2, ?_, fun p3 n3 => ?_⟩
    · rw [List.length_map, List.length_map]
      exact small (by omega)
    rw [← List.map_append]
    have s3 : Same H2 (upd H2 p3 (.lst ((m1 ++ m2).map V.int))) := Same.new n3
    have g3 : (upd H2 p3 (.lst ((m1 ++ m2).map V.int))) p3 = some (.lst ((m1 ++ m2).map V.int)) := upd_same
    have hl3 : (m1 ++ m2).length ≤ 126 := by
      rw [List.length_append]
      omega
    generalize m1 ++ m2 = cs at s3 g3 hl3 ⊢
    generalize upd H2 p3 (.lst (cs.map V.int)) = H3 at s3 g3 ⊢
    have sA : Same H H3 := (s1.trans s2).trans s3
    clear s1 s2 s3 g1 g2
    first | refine sigN [some (.ref a), some (.int (k)), some (V.ref p3), none, none, none, none] (by rfl) ?_ | refine sig [some (.ref a), some (.int (k)), some (V.ref p3), none, none, none, none] (by rfl) ?_
    refine ⟨.ref a, rfl, a, rfl, ⟨_, sA.seq hx⟩, fun D hD => ?_⟩
    refine lc_list (K := K) (a := a) (xs := ns.map V.int) (fun i H4 => Same H3 H4 ∧ ∃ gs : List Int, H4 D = some (.lst (gs.map V.int)) ∧ gs.length ≤ i) ⟨Same.new hD, [], upd_same, Nat.le_refl _⟩ (fun i H4 _ z => (sA.trans z.1).seq hx) (fun i x H4 hi z => ?_) (fun H4 z => ?_)
    · obtain ⟨s4, gs, g4, l4⟩ := z
      obtain ⟨y, rfl⟩ : ∃ y : Int, x = .int y := by
        rw [List.getElem?_map] at hi
        cases e : ns[i]? with
        | none =>
          rw [e] at hi
          cases hi
        | some y =>
          rw [e] at hi
          exact ⟨y, (Option.some.inj hi).symm⟩
      have hi2 : i < ns.length := by
        have h1 := (List.getElem?_eq_some_iff.mp hi).1
        rw [List.length_map] at h1
        exact h1
      refine ⟨rfl, _, rfl, _, _, rfl, rfl, ⟨by decide, by decide, by decide⟩, _, _, rfl, rfl, _, rfl, ite2 (fun _ => ?_) (fun _ => ?_)⟩
      · refine ⟨_, rfl, _, g4, ?_, Same.put s4 hD, gs ++ [y], ?_, ?_⟩
        · rw [List.length_map]
          exact small1000 (by omega)
        · rw [upd_same, List.map_append]
          rfl
        · rw [List.length_append]
          exact Nat.add_le_add_right l4 1
      · exact ⟨s4, gs, g4, Nat.le_succ_of_le l4⟩
    · obtain ⟨s4, gs, g4, l4⟩ := z
      have sB : Same H H4 := sA.trans s4
      have g3' := s4 _ _ g3
      refine ⟨_, rfl, _, _, rfl, rfl, (Or.inl ⟨by decide, by decide⟩), _, _, rfl, rfl, ?_⟩
      first | refine sigN [some (.ref a), some (.int (k)), some (V.ref p3), some (V.ref D), none, some (.int (61 + 9 * k)), none] (by rfl) ?_ | refine sig [some (.ref a), some (.int (k)), some (V.ref p3), some (V.ref D), none, some (.int (61 + 9 * k)), none] (by rfl) ?_
      refine ⟨_, rfl, p3, rfl, ⟨_, .inl (.inl g3')⟩, for_list (K := K) (a := p3) (xs := cs.map V.int) (fun i σ H5 => H5 = H4 ∧ ∃ (y : Int) (v : Option V), σ = [some (.ref a), some (.int k), some (.ref p3), some (.ref D), v, some (.int y), none]) ⟨rfl, _, none, rfl⟩ (fun i σ H5 _ z => by rw [z.1]; exact .inl (.inl g3')) ?_ ?_⟩
      · rintro i x σ H5 hi ⟨rfl, y, v, rfl⟩
        obtain ⟨t, rfl⟩ : ∃ t : Int, x = .int t := by
          rw [List.getElem?_map] at hi
          cases e : cs[i]? with
          | none =>
            rw [e] at hi
            cases hi
          | some t =>
            rw [e] at hi
            exact ⟨t, (Option.some.inj hi).symm⟩
        refine ⟨_, rfl, _, _, rfl, rfl, (Or.inr ⟨by decide, by decide⟩), _, rfl, _, _, rfl, rfl, _, rfl, _, _, rfl, rfl, (by show (0 : Int) < 2147483647; decide), ?_⟩
        exact ⟨rfl, _, _, rfl⟩
      · rintro σ H5 ⟨rfl, y, v, rfl⟩
        refine ⟨_, rfl, _, rfl, D, _, rfl, .inl (.inl (.inl g4)), _, _, rfl, rfl, _, rfl, ite2 (fun e => ?A) (fun e => ?B)⟩
        case' A =>
          have e' : k < ((gs.map V.int).length : Int) := of_decide_eq_true e
          rw [List.length_map] at e'
          have hk2 : k.toNat < gs.length := by omega
          have hz : atI (gs.map V.int) k = some (.int gs[k.toNat]) := by
            have key : atI (gs.map V.int) ((k.toNat : Nat) : Int) = some (.int gs[k.toNat]) := atI_nat (by
              rw [List.getElem?_map, List.getElem?_eq_getElem hk2]
              rfl)
            rw [show ((k.toNat : Nat) : Int) = k by omega] at key
            exact key
          refine ⟨_, rfl, _, rfl, D, _, _, _, rfl, rfl, .inl (.inl g4), hz, ?_⟩
        all_goals
          intro m nm
          have h3m : p3 ≠ m := ne_of_none g3' nm
          refine ⟨_, rfl, _, rfl, _, rfl, _, rfl, _, _, rfl, rfl, (Or.inl ⟨by decide, by decide⟩), _, _, rfl, rfl, (by show 1 ≤ sizeLine; decide), fun l nl => ?_⟩
          have nml : m ≠ l := ne_of_none upd_same nl
          have nl0 : H5 l = none := Same.free (Same.new nm) nl
          refine ⟨p3, l, cs.map V.int, [V.int (47 * k + 19)], rfl, rfl, ?_, upd_same, ?_, fun u nu => ?_⟩
          · rw [upd_ne (ne_of_none g3' nl0), upd_ne h3m]
            exact g3'
          · rw [List.length_map]
            exact small (by show cs.length + 1 ≤ 1000; omega)
          have nmu : m ≠ u := ne_of_none (by rw [upd_ne nml]; exact upd_same) nu
          have nu0 : H5 u = none := Same.free (Same.put (Same.new nm) nl0) nu
          refine ⟨?_, mk4 _ y u 0, rfl, (by show 4 ≤ 15; decide), ?_⟩
          · rw [upd_ne nmu, upd_ne nml]
            exact upd_same
          rw [m4_merge]
          have hm0 : H m = none := Same.free sB nm
          have hl0 : H l = none := Same.free sB nl0
          have hu0 : H u = none := Same.free sB nu0
          refine q _ m u (Same.put (Same.put (Same.put (Same.put sB hm0) hl0) hu0) hm0) hm0 hu0 ⟨_, y, cs ++ [47 * k + 19], 0, upd_same, Nat.le_refl _, ?_, ?_⟩
          · rw [upd_ne (fun z => nmu z.symm), upd_same, List.map_append]
            rfl
          · rw [List.length_append]
            exact Nat.lt_of_lt_of_le (by decide : 0 < 1) (Nat.le_add_left _ _)
end
end K55
set_option Elab.async false
set_option linter.all false
set_option maxRecDepth 100000
set_option maxHeartbeats 4000000
namespace K55
open PySem PySem.Spec PyProof.Rows L2 Gd QM EcM EcP
local macro_rules | `(tactic| walk_at "mm") => `(tactic| (repeat (first | exact List.mem_cons_self | apply List.mem_cons_of_mem)))
theorem fq_2 : [V.int 2, V.int 1] = fq 2 := rfl
theorem fq_3 : [V.int 3, V.int 1] = fq 3 := rfl
theorem fq_0 : [V.int 0, V.int 1] = fq 0 := rfl
theorem rb_two : RB 2 (2 : Rat) := ⟨by decide, by decide⟩
theorem rb_three : RB 2 (3 : Rat) := ⟨by decide, by decide⟩
/-- the five numbers of a curve -/
def FivT (K : PySem.W.Frag) (H : Hp) (f : Addr) (e : Ec) : Prop := SqT K H f [.int 0, .int e.a, .int 0, .int e.b, .int e.c]
theorem FivT.same {K : PySem.W.Frag} {H H' : Hp} {f : Addr} {e : Ec} (h : FivT K H f e) (s : Same H H') : FivT K H' f e := Same.tup s h
theorem neg_fq (y : Rat) : [V.int (-y.num), V.int (y.den : Int)] = fq (-y) := by
  unfold fq
  rw [Rat.neg_num, Rat.neg_den]
theorem sq_eq {K : PySem.W.Frag} {H : Hp} {p : Addr} {a b : Rat} (h : SqT K H p (fq a)) (e : a = b) : SqT K H p (fq b) := e ▸ h
section
variable {P : Program} {w : World} {K : PySem.W.Frag} {mg : Str → Option Value} {base : Heap}
/-! ### the five numbers -/
def sp_law_five (K : PySem.W.Frag) : Sp := fun vs H Q _ => ∃ (p : Addr) (a b c : Int), vs = [.ref p] ∧ SqT K H p [.int a, .int b, .int c] ∧ ∀ t, H t = none → Q (.ref t) (upd H t (.tup [.int 0, .int a, .int 0, .int b, .int c]))
abbrev s__law_five : Stmt := topS 47
theorem sc__law_five : FnScope ["curve"] ["curve"] (defScope s__law_five) := ⟨rfl, rfl, rfl, by decide +kernel, rfl, by decide +kernel, by decide +kernel⟩
theorem k_law_five (T : Tx K mg) (D : Df K mg "_law_five" s__law_five ["curve"])  : Kl P w K mg base 1 "_law_five" (sp_law_five K) := by
  have nd := sc__law_five.nd
  refine Kl.by_body D sc__law_five (fun vs H Q E h => ?_) (fun f cdv A outer s H vs Q E hr h => ?_)
  · obtain ⟨_, _, _, _, rfl, _⟩ := h
    rfl
  · obtain ⟨p, a, b, c, rfl, hp, q⟩ := h
    have hu1 := hu_of hr
    refine ⟨_, (pss_one (ps_ret (pe_ifExp (pt_cmpR op_eq (pe_callB call_len_seq (by rfl) T.len (by decide +kernel) (pa_cons (pv 0) pa_nil)) pe_int (nomark _)) (pe_tup (pa_cons pe_int (pa_cons (pe_ix ix_tup (pv 0) pe_int (fun _ _ => rfl)) (pa_cons pe_int (pa_cons (pe_ix ix_tup (pv 0) pe_int (fun _ _ => rfl)) (pa_cons (pe_ix ix_tup (pv 0) pe_int (fun _ _ => rfl)) pa_nil)))))) (pv 0)))), ?_⟩
    refine ⟨.ref p, rfl, p, _, rfl, .inr hp, rfl, _, rfl, iteY (by rfl) ?_⟩
    refine ⟨.ref p, rfl, p, _, 0, _, rfl, rfl, hp, rfl, .ref p, rfl, p, _, 1, _, rfl, rfl, hp, rfl, .ref p, rfl, p, _, 2, _, rfl, rfl, hp, rfl, (by show 5 ≤ sizeLine; decide), fun t nt => q t nt⟩
/-! ### the bent -/
def sp_law_bent (K : PySem.W.Frag) : Sp := fun vs H Q _ => ∃ (f p : Addr) (e : Ec) (x : Rat), vs = [.ref f, .ref p] ∧ FivT K H f e ∧ SqT K H p (fq x) ∧ RB 8000 x ∧ ∀ t, H t = none → Q (.ref t) (upd H t (.tup (fq 0)))
abbrev s__law_bent : Stmt := topS 49
theorem sc__law_bent : FnScope ["five_v", "x"] ["five_v", "x"] (defScope s__law_bent) := ⟨rfl, rfl, rfl, by decide +kernel, rfl, by decide +kernel, by decide +kernel⟩
theorem k_law_bent (T : Tx K mg) (D : Df K mg "_law_bent" s__law_bent ["five_v", "x"]) (c_law_cut : Kl P w K mg base 2 "_law_cut" (sp_law_cut K)) : Kl P w K mg base 3 "_law_bent" (sp_law_bent K) := by
  have nd := sc__law_bent.nd
  refine Kl.by_body D sc__law_bent (fun vs H Q E h => ?_) (fun f cdv A outer s H vs Q E hr h => ?_)
  · obtain ⟨_, _, _, _, rfl, _⟩ := h
    rfl
  · obtain ⟨f, p, e, x, rfl, hf, hp, hx, q⟩ := h
    have hu1 := hu_of hr
    refine ⟨_, (pss_one (ps_ret (pe_k c_law_cut  hr (by decide) (by rfl) (pa_cons (pe_op op_add (pe_op op_mulW (pe_ix ix_tup (pv 0) pe_int (fun _ _ => rfl)) (pe_ix ix_tup (pv 1) pe_int (fun _ _ => rfl))) (pe_op op_mulW (pe_ix ix_tup (pv 0) pe_int (fun _ _ => rfl)) (pe_ix ix_tup (pv 1) pe_int (fun _ _ => rfl)))) (pa_cons (pe_ix ix_tup (pv 1) pe_int (fun _ _ => rfl)) pa_nil))))), ?_⟩
    refine ⟨_, rfl, f, _, 0, .int 0, rfl, rfl, hf, rfl, .ref p, rfl, p, _, 0, _, rfl, rfl, hp, rfl, _, _, rfl, rfl, (B.lit (n := 1) (by decide)).mulW hx.n (by decide), .ref f, rfl, f, _, 2, .int 0, rfl, rfl, hf, rfl, .ref p, rfl, p, _, 1, _, rfl, rfl, hp, rfl, _, _, rfl, rfl, (B.lit (n := 1) (by decide)).mulW hx.d (by decide), _, _, rfl, rfl, .ref p, rfl, p, _, 1, _, rfl, rfl, hp, rfl, 0 * x.num + 0 * (x.den : Int), (x.den : Int), rfl, den_ne x, ?_, hx.d.up (by decide), fun t nt => ?_⟩
    · rw [Int.zero_mul, Int.zero_mul]
      exact B.lit (by decide)
    · rw [Int.zero_mul, Int.zero_mul, Int.add_zero, Rat.zero_divInt]
      exact q t nt
/-! ### the point turned -/
def PB (m : Nat) : Pt → Prop
  | none => True
  | some (x, y) => RB m x ∧ RB m y
def sp_law_turned (K : PySem.W.Frag) : Sp := fun vs H Q _ => ∃ (f p : Addr) (e : Ec) (S : Pt), vs = [.ref f, .ref p] ∧ FivT K H f e ∧ PtT K H p S ∧ PB 7000 S ∧ ∀ t H', Same H H' → PtT K H' t (neg S) → Q (.ref t) H'
abbrev s__law_turned : Stmt := topS 51
theorem sc__law_turned : FnScope ["five_v", "point"] ["five_v", "point"] (defScope s__law_turned) := ⟨rfl, rfl, rfl, by decide +kernel, rfl, by decide +kernel, by decide +kernel⟩
theorem k_law_turned (T : Tx K mg) (D : Df K mg "_law_turned" s__law_turned ["five_v", "point"]) (c_law_less : Kl P w K mg base 3 "_law_less" (sp_law_less K)) (c_law_bent : Kl P w K mg base 3 "_law_bent" (sp_law_bent K)) : Kl P w K mg base 4 "_law_turned" (sp_law_turned K) := by
  have nd := sc__law_turned.nd
  refine Kl.by_body D sc__law_turned (fun vs H Q E h => ?_) (fun f cdv A outer s H vs Q E hr h => ?_)
  · obtain ⟨_, _, _, _, rfl, _⟩ := h
    rfl
  · obtain ⟨f, p, e, S, rfl, hf, hp, hB, q⟩ := h
    have hu1 := hu_of hr
    refine ⟨_, (pss_cons (ps_if (pt_cmpR (op_eqD hr.units) (pv 1) (pe_tup pa_nil) (nomark _)) (pss_one (ps_ret (pe_tup pa_nil))) pss_nil)
      (pss_one (ps_ret (pe_tup (pa_cons (pe_ix ix_tup (pv 1) pe_int (fun _ _ => rfl)) (pa_cons (pe_k c_law_less  hr (by decide) (by rfl) (pa_cons (pe_tup (pa_cons (pe_un un_neg (pe_ix ix_tup (pe_ix ix_tup (pv 1) pe_int (fun _ _ => rfl)) pe_int (fun _ _ => rfl))) (pa_cons (pe_ix ix_tup (pe_ix ix_tup (pv 1) pe_int (fun _ _ => rfl)) pe_int (fun _ _ => rfl)) pa_nil))) (pa_cons (pe_k c_law_bent  hr (by decide) (by rfl) (pa_cons (pv 0) (pa_cons (pe_ix ix_tup (pv 1) pe_int (fun _ _ => rfl)) pa_nil))) pa_nil))) pa_nil)))))), ?_⟩
    refine ⟨_, rfl, (by show 0 ≤ sizeLine; decide), fun z nz => ?_⟩
    have s1 := Same.new (H := H) (p := z) (o := .tup []) nz
    have gz : upd H z (.tup []) z = some (.tup []) := upd_same
    generalize upd H z (.tup []) = H1 at s1 gz ⊢
    match S, hp, hB, q with
    | none, hp, hB, q =>
      refine ⟨dP none, .tuple [], dp_pt (hp.same s1), dp0 (tup_of gz), sh_P none, rfl, _, rfl, iteT ?_⟩
      refine ⟨(by show 0 ≤ sizeLine; decide), fun t nt => ?_⟩
      exact q t _ (s1.trans (Same.new nt)) (tup_of upd_same)
    | some (x, y), ⟨a, b, h1, h2, h3⟩, ⟨bx, byy⟩, q =>
      refine ⟨dP (some (x, y)), .tuple [], dp_pt ⟨a, b, Same.tup s1 h1, Same.tup s1 h2, Same.tup s1 h3⟩, dp0 (tup_of gz), sh_P (some (x, y)), rfl, _, rfl, iteF ?_⟩
      have h1' := Same.tup s1 h1
      have h3' := Same.tup s1 h3
      refine ⟨_, rfl, p, _, 0, .ref a, rfl, rfl, h1', rfl, .ref p, rfl, p, _, 1, .ref b, rfl, rfl, h1', rfl, b, _, 0, _, rfl, rfl, h3', rfl, _, rfl, .ref p, rfl, p, _, 1, .ref b, rfl, rfl, h1', rfl, b, _, 1, _, rfl, rfl, h3', rfl, (by show 2 ≤ sizeLine; decide), fun c nc => ?_⟩
      have s2 := Same.new (H := H1) (p := c) (o := .tup [.int (-y.num), .int (y.den : Int)]) nc
      have gc : upd H1 c (.tup [.int (-y.num), .int (y.den : Int)]) c = some (.tup [.int (-y.num), .int (y.den : Int)]) := upd_same
      generalize upd H1 c (.tup [.int (-y.num), .int (y.den : Int)]) = H2 at s2 gc ⊢
      rw [neg_fq] at gc
      have s02 := s1.trans s2
      refine ⟨.ref f, rfl, .ref p, rfl, p, _, 0, .ref a, rfl, rfl, Same.tup s02 h1, rfl, f, a, e, x, rfl, hf.same s02, Same.tup s02 h2, bx.up (by decide), fun d nd => ?_⟩
      have s3 := Same.new (H := H2) (p := d) (o := .tup (fq 0)) nd
      have gd : upd H2 d (.tup (fq 0)) d = some (.tup (fq 0)) := upd_same
      generalize upd H2 d (.tup (fq 0)) = H3 at s3 gd ⊢
      refine ⟨c, d, -y, 0, _, _, rfl, tup_of (s3 _ _ gc), tup_of gd, byy.neg, RB.zero, by decide, trivial, fun t nt => ?_⟩
      have s4 := Same.new (H := H3) (p := t) (o := .tup (fq (-y - 0))) nt
      have gt : upd H3 t (.tup (fq (-y - 0))) t = some (.tup (fq (-y - 0))) := upd_same
      generalize upd H3 t (.tup (fq (-y - 0))) = H4 at s4 gt ⊢
      refine ⟨(by show 2 ≤ sizeLine; decide), fun r nr => ?_⟩
      have s5 := Same.new (H := H4) (p := r) (o := .tup [.ref a, .ref t]) nr
      have s05 := s02.trans (s3.trans (s4.trans s5))
      exact q r _ s05 ⟨a, t, tup_of upd_same, Same.tup s05 h2, sq_eq (tup_of (s5 _ _ gt)) (by grind)⟩
/-! ### the sum -/
def sp_law_sum (K : PySem.W.Frag) : Sp := fun vs H Q _ => ∃ (f p o : Addr) (e : Ec) (S R : Pt) (h j : Nat), vs = [.ref f, .ref p, .ref o] ∧ FivT K H f e ∧ e.Bd 15 ∧ PtT K H p S ∧ PtT K H o R ∧ On e S ∧ On e R ∧ HB h S ∧ HB j R ∧ h + j ≤ 400 ∧ ∀ t H', Same H H' → PtT K H' t (sum e S R) → Q (.ref t) H'
abbrev s__law_sum : Stmt := topS 52
theorem sc__law_sum : FnScope ["five_v", "one", "two", "x", "y", "upper", "k", "far"] ["five_v", "one", "two"] (defScope s__law_sum) := ⟨rfl, rfl, rfl, by decide +kernel, rfl, by decide +kernel, by decide +kernel⟩
theorem k_law_sum (T : Tx K mg) (D : Df K mg "_law_sum" s__law_sum ["five_v", "one", "two"]) (c_law_less : Kl P w K mg base 3 "_law_less" (sp_law_less K)) (c_law_turned : Kl P w K mg base 4 "_law_turned" (sp_law_turned K)) (c_law_plus : Kl P w K mg base 3 "_law_plus" (sp_law_plus K)) (c_law_over : Kl P w K mg base 3 "_law_over" (sp_law_over K)) (c_law_by : Kl P w K mg base 3 "_law_by" (sp_law_by K)) (c_law_bent : Kl P w K mg base 3 "_law_bent" (sp_law_bent K)) : Kl P w K mg base 5 "_law_sum" (sp_law_sum K) := by
  have nd := sc__law_sum.nd
  refine Kl.by_body D sc__law_sum (fun vs H Q E h => ?_) (fun f cdv A outer s H vs Q E hr h => ?_)
  · obtain ⟨_, _, _, _, _, _, _, _, rfl, _⟩ := h
    rfl
  · obtain ⟨f, p, o, e, S, R, h, j, rfl, hf, hg, hp, ho, onS, onR, hS, hR, hhj, q⟩ := h
    have hu1 := hu_of hr
    refine ⟨_, (pss_cons (ps_if (PW.pt (pw_or (pt_cmpR (op_eqD hr.units) (pv 1) (pe_tup pa_nil) (nomark _)) (pw_or1 (pt_cmpR (op_eqD hr.units) (pv 2) (pe_tup pa_nil) (nomark _))))) (pss_one (ps_ret (pe_ifExp (pt_cmpR (op_eqD hr.units) (pv 1) (pe_tup pa_nil) (nomark _)) (pv 2) (pv 1)))) pss_nil)
      (pss_cons (ps_if (pt_cmpR (op_eqD hr.units) (pe_k c_law_turned  hr (by decide) (by rfl) (pa_cons (pv 0) (pa_cons (pv 1) pa_nil))) (pv 2) (nomark _)) (pss_one (ps_ret (pe_tup pa_nil))) pss_nil)
      (pss_cons (ps_asg (pv 1) (pg_tup rfl (pgs_cons (pg_name (i := 3) nd rfl (by first | exact Or.inl rfl | exact Or.inr rfl)) (pgs_cons (pg_name (i := 4) nd rfl (by first | exact Or.inl rfl | exact Or.inr rfl)) pgs_nil))))
      (C8.pss_cut (ps_if (pt_cmpR (op_eqD hr.units) (pv 1) (pv 2) (nomark _)) (pss_cons (ps_set (i := 5) nd rfl (by first | exact Or.inl rfl | exact Or.inr rfl) (pe_k c_law_plus  hr (by decide) (by rfl) (pa_cons (pe_k c_law_by  hr (by decide) (by rfl) (pa_cons (pe_tup (pa_cons pe_int (pa_cons pe_int pa_nil))) (pa_cons (pe_k c_law_by  hr (by decide) (by rfl) (pa_cons (pv 3) (pa_cons (pv 3) pa_nil))) pa_nil))) (pa_cons (pe_k c_law_plus  hr (by decide) (by rfl) (pa_cons (pe_k c_law_by  hr (by decide) (by rfl) (pa_cons (pe_tup (pa_cons (pe_op op_mul pe_int (pe_ix ix_tup (pv 0) pe_int (fun _ _ => rfl))) (pa_cons pe_int pa_nil))) (pa_cons (pv 3) pa_nil))) (pa_cons (pe_tup (pa_cons (pe_ix ix_tup (pv 0) pe_int (fun _ _ => rfl)) (pa_cons pe_int pa_nil))) pa_nil))) pa_nil))))
      (pss_cons (ps_set (i := 5) nd rfl (by first | exact Or.inl rfl | exact Or.inr rfl) (pe_k c_law_less  hr (by decide) (by rfl) (pa_cons (pv 5) (pa_cons (pe_k c_law_by  hr (by decide) (by rfl) (pa_cons (pe_tup (pa_cons (pe_ix ix_tup (pv 0) pe_int (fun _ _ => rfl)) (pa_cons pe_int pa_nil))) (pa_cons (pv 4) pa_nil))) pa_nil))))
      (pss_one (ps_set (i := 6) nd rfl (by first | exact Or.inl rfl | exact Or.inr rfl) (pe_k c_law_over  hr (by decide) (by rfl) (pa_cons (pv 5) (pa_cons (pe_k c_law_plus  hr (by decide) (by rfl) (pa_cons (pe_k c_law_by  hr (by decide) (by rfl) (pa_cons (pe_tup (pa_cons pe_int (pa_cons pe_int pa_nil))) (pa_cons (pv 4) pa_nil))) (pa_cons (pe_k c_law_bent  hr (by decide) (by rfl) (pa_cons (pv 0) (pa_cons (pv 3) pa_nil))) pa_nil))) pa_nil))))))) (pss_one (ps_set (i := 6) nd rfl (by first | exact Or.inl rfl | exact Or.inr rfl) (pe_k c_law_over  hr (by decide) (by rfl) (pa_cons (pe_k c_law_less  hr (by decide) (by rfl) (pa_cons (pe_ix ix_tup (pv 2) pe_int (fun _ _ => rfl)) (pa_cons (pv 4) pa_nil))) (pa_cons (pe_k c_law_less  hr (by decide) (by rfl) (pa_cons (pe_ix ix_tup (pv 2) pe_int (fun _ _ => rfl)) (pa_cons (pv 3) pa_nil))) pa_nil))))))
      (pss_cons (ps_set (i := 7) nd rfl (by first | exact Or.inl rfl | exact Or.inr rfl) (pe_k c_law_less  hr (by decide) (by rfl) (pa_cons (pe_k c_law_plus  hr (by decide) (by rfl) (pa_cons (pe_k c_law_by  hr (by decide) (by rfl) (pa_cons (pv 6) (pa_cons (pv 6) pa_nil))) (pa_cons (pe_k c_law_by  hr (by decide) (by rfl) (pa_cons (pe_tup (pa_cons (pe_ix ix_tup (pv 0) pe_int (fun _ _ => rfl)) (pa_cons pe_int pa_nil))) (pa_cons (pv 6) pa_nil))) pa_nil))) (pa_cons (pe_tup (pa_cons (pe_ix ix_tup (pv 0) pe_int (fun _ _ => rfl)) (pa_cons pe_int pa_nil))) pa_nil))))
      (pss_cons (ps_set (i := 7) nd rfl (by first | exact Or.inl rfl | exact Or.inr rfl) (pe_k c_law_less  hr (by decide) (by rfl) (pa_cons (pe_k c_law_less  hr (by decide) (by rfl) (pa_cons (pv 7) (pa_cons (pv 3) pa_nil))) (pa_cons (pe_ix ix_tup (pv 2) pe_int (fun _ _ => rfl)) pa_nil))))
      (pss_one (ps_ret (pe_k c_law_turned  hr (by decide) (by rfl) (pa_cons (pv 0) (pa_cons (pe_tup (pa_cons (pv 7) (pa_cons (pe_k c_law_plus  hr (by decide) (by rfl) (pa_cons (pv 4) (pa_cons (pe_k c_law_by  hr (by decide) (by rfl) (pa_cons (pv 6) (pa_cons (pe_k c_law_less  hr (by decide) (by rfl) (pa_cons (pv 7) (pa_cons (pv 3) pa_nil))) pa_nil))) pa_nil))) pa_nil))) pa_nil))))))))))), ?_⟩
    refine ⟨_, rfl, (by show 0 ≤ sizeLine; decide), fun z nz => ?_⟩
    have s1 := Same.new (H := H) (p := z) (o := .tup []) nz
    have gz : upd H z (.tup []) z = some (.tup []) := upd_same
    generalize upd H z (.tup []) = H1 at s1 gz ⊢
    refine ⟨dP S, .tuple [], dp_pt (hp.same s1), dp0 (tup_of gz), sh_P S, rfl, _, rfl, ?_⟩
    rw [eqv_P0]
    cases S with
    | none =>
      refine iteY rfl ?_
      refine ⟨_, rfl, (by show 0 ≤ sizeLine; decide), fun z2 nz2 => ?_⟩
      have s2 := Same.new (H := H1) (p := z2) (o := .tup []) nz2
      have gz2 : upd H1 z2 (.tup []) z2 = some (.tup []) := upd_same
      generalize upd H1 z2 (.tup []) = H2 at s2 gz2 ⊢
      have s02 := s1.trans s2
      refine ⟨dP none, .tuple [], dp_pt (hp.same s02), dp0 (tup_of gz2), sh_P none, rfl, _, rfl, iteT ?_⟩
      refine ⟨_, rfl, ?_⟩
      exact q o _ s02 (by cases R <;> exact ho.same s02)
    | some S =>
      refine iteN (by simp) ?_
      refine ⟨_, rfl, (by show 0 ≤ sizeLine; decide), fun z2 nz2 => ?_⟩
      have s2 := Same.new (H := H1) (p := z2) (o := .tup []) nz2
      have gz2 : upd H1 z2 (.tup []) z2 = some (.tup []) := upd_same
      generalize upd H1 z2 (.tup []) = H2 at s2 gz2 ⊢
      have s02 := s1.trans s2
      refine ⟨dP R, .tuple [], dp_pt (ho.same s02), dp0 (tup_of gz2), sh_P R, rfl, _, rfl, ?_⟩
      rw [eqv_P0]
      cases R with
      | none =>
        refine iteY rfl ?_
        refine ⟨_, rfl, (by show 0 ≤ sizeLine; decide), fun z3 nz3 => ?_⟩
        have s3 := Same.new (H := H2) (p := z3) (o := .tup []) nz3
        have gz3 : upd H2 z3 (.tup []) z3 = some (.tup []) := upd_same
        generalize upd H2 z3 (.tup []) = H3 at s3 gz3 ⊢
        have s03 := s02.trans s3
        refine ⟨dP (some S), .tuple [], dp_pt (hp.same s03), dp0 (tup_of gz3), sh_P (some S), rfl, _, rfl, iteF ?_⟩
        refine ⟨_, rfl, ?_⟩
        exact q p _ s03 (hp.same s03)
      | some R =>
        refine iteN (by simp) ?_
        obtain ⟨x, y⟩ := S
        obtain ⟨u, v⟩ := R
        replace hS : RB h x := hS
        replace hR : RB j u := hR
        have yB : RB (2 * h + 15) y := y_RB (h := h) (g := 15) onS hS hg
        have vB : RB (2 * j + 15) v := y_RB (h := j) (g := 15) onR hR hg
        have farB : HB (2 * h + 2 * j + 2 * 15 + 6) (sum e (some (x, y)) (some (u, v))) := sum_HB (h := h) (j := j) (g := 15) onS onR hS hR hg
        have aB : RB 15 ((e.a : Int) : Rat) := RB.int hg.a (by decide)
        have bB : RB 15 ((e.b : Int) : Rat) := RB.int hg.b (by decide)
        have a2B : RB 17 ((2 * e.a : Int) : Rat) := RB.int (B.mul (m := 2) (n := 15) (B.lit (by decide)) hg.a) (by decide)
        replace onS : y * y = e.f x := onS
        replace onR : v * v = e.f u := onR
        refine ⟨_, rfl, _, rfl, f, p, e, some (x, y), rfl, hf.same s02, hp.same s02, ⟨hS.up (by omega), yB.up (by omega)⟩, fun z3 H3 s3 hz3 => ?_⟩
        have s03 := s02.trans s3
        refine ⟨_, rfl, dP (neg (some (x, y))), dP (some (u, v)), dp_pt hz3, dp_pt (ho.same s03), sh_P (neg (some (x, y))), sh_P (some (u, v)), _, rfl, ?_⟩
        rw [eqv_P]
        by_cases hop : x = u ∧ -y = v
        · refine iteY (decide_eq_true (by show some (x, -y) = some (u, v); rw [hop.1, hop.2])) ?_
          refine ⟨(by show 0 ≤ sizeLine; decide), fun t nt => ?_⟩
          refine q t _ (s03.trans (Same.new nt)) ?_
          have : sum e (some (x, y)) (some (u, v)) = none := if_pos hop
          rw [this]
          exact tup_of upd_same
        refine iteN (fun h => hop (by
          have h1 := of_decide_eq_true h
          have h2 : some (x, -y) = some (u, v) := h1
          obtain ⟨h3, h4⟩ := Prod.mk.inj (Option.some.inj h2)
          exact ⟨h3, h4⟩)) ?_
        have esum : sum e (some (x, y)) (some (u, v)) = some (px e (slo e x y u v) x u, -(y + slo e x y u v * (px e (slo e x y u v) x u - x))) := if_neg hop
        rw [esum] at q farB
        replace farB : RB (2 * h + 2 * j + 2 * 15 + 6) (px e (slo e x y u v) x u) := farB
        clear esum hz3
        have hp3 := hp.same s03
        have ho3 := ho.same s03
        obtain ⟨px1, py1, g1, g2, g3⟩ := hp3
        obtain ⟨pu1, pv1, g4, g5, g6⟩ := ho3
        refine ⟨_, rfl, p, _, rfl, g1, rfl, _, _, rfl, _, _, rfl, rfl, ?_⟩
        first | refine sigN [some (.ref f), some (.ref p), some (.ref o), some (.ref px1), some (.ref py1), none, none, none] (by rfl) ?_ | refine sig [some (.ref f), some (.ref p), some (.ref o), some (.ref px1), some (.ref py1), none, none, none] (by rfl) ?_
        have hdS : Dp K H3 (.ref p) (dP (some (x, y))) := dp_pt (hp.same s03)
        have hdR : Dp K H3 (.ref o) (dP (some (u, v))) := dp_pt (ho.same s03)
        have hf3 := hf.same s03
        have E0 : FrE K H3 [(px1, x, h), (py1, y, 2 * h + 15), (pu1, u, j), (pv1, v, 2 * j + 15)] := FrE.add (FrE.add (FrE.add (FrE.add FrE.nil g6 vB) g5 hR) g3 yB) g2 hS
        have n2y : ∀ z : Rat, x = u ∧ y = v → 2 * y + z * 0 ≠ 0 := fun z h h2 => hop ⟨h.1, by obtain ⟨_, rfl⟩ := h; grind⟩
        have kB : RB (5 * (h + j) + 60) (slo e x y u v) := by
          by_cases hsame : x = u ∧ y = v
          · have n2 := n2y 0 hsame
            obtain ⟨rfl, rfl⟩ := hsame
            rw [sl_dbl]
            exact (RB.div (show 2 * y ≠ 0 by grind) ((rb_three.mul (hS.mul hS)).add ((a2B.mul hS).add bB)) (rb_two.mul yB)).up (by omega)
          · rw [sl_two hsame]
            have nx : u - x ≠ 0 := by
              intro h0
              have hx : x = u := by grind
              subst hx
              rcases same_x onS onR with z | z
              · exact hsame ⟨rfl, z⟩
              · exact hop ⟨rfl, z⟩
            exact (RB.div nx (vB.sub yB) (hR.sub hS)).up (by omega)
        refine ⟨fun σ H4 => Same H3 H4 ∧ ∃ up kk, σ = [some (.ref f), some (.ref p), some (.ref o), some (.ref px1), some (.ref py1), up, some (.ref kk), none] ∧ SqT K H4 kk (fq (slo e x y u v)), ?_, ?_⟩
        · refine ⟨_, rfl, _, rfl, dP (some (x, y)), dP (some (u, v)), hdS, hdR, sh_P _, sh_P _, _, rfl, ?_⟩
          rw [eqv_P]
          by_cases hsame : x = u ∧ y = v
          · have n2 := n2y 0 hsame
            obtain ⟨rfl, rfl⟩ := hsame
            refine iteY (decide_eq_true rfl) ?_
            refine ⟨(by show 2 ≤ sizeLine; decide), fun three nthree => ?_⟩
            obtain ⟨I1, eH_, i1, E1⟩ := litE E0 nthree fq_3 rb_three
            rw [eH_]
            clear eH_
            refine ⟨_, rfl, _, rfl, ?_⟩
            refine ⟨px1, px1, _, _, _, _, rfl, E1.get (by walk_at "mm"), E1.get (by walk_at "mm"), E1.rb (p := px1) (by walk_at "mm"), E1.rb (p := px1) (by walk_at "mm"), (by first | decide | omega), trivial, fun xx nxx => ?_⟩
            obtain ⟨I2, eH_, i2, E2⟩ := stepE E1 nxx (RB.mul (E1.rb (p := px1) (by walk_at "mm")) (E1.rb (p := px1) (by walk_at "mm")))
            rw [eH_]
            clear eH_
            refine ⟨three, xx, _, _, _, _, rfl, E2.get (by walk_at "mm"), E2.get (by walk_at "mm"), E2.rb (p := three) (by walk_at "mm"), E2.rb (p := xx) (by walk_at "mm"), (by first | decide | omega), trivial, fun txx ntxx => ?_⟩
            obtain ⟨I3, eH_, i3, E3⟩ := stepE E2 ntxx (RB.mul (E2.rb (p := three) (by walk_at "mm")) (E2.rb (p := xx) (by walk_at "mm")))
            rw [eH_]
            clear eH_
            refine ⟨_, rfl, f, _, 1, _, rfl, rfl, hf3.same (i1.trans (i2.trans i3)), rfl, _, _, rfl, rfl, Or.inl ⟨by decide, by decide⟩, ?_⟩
            refine ⟨(by show 2 ≤ sizeLine; decide), fun ta nta => ?_⟩
            obtain ⟨I4, eH_, i4, E4⟩ := litE E3 nta (fq_int _).symm a2B
            rw [eH_]
            clear eH_
            refine ⟨_, rfl, ?_⟩
            refine ⟨ta, px1, _, _, _, _, rfl, E4.get (by walk_at "mm"), E4.get (by walk_at "mm"), E4.rb (p := ta) (by walk_at "mm"), E4.rb (p := px1) (by walk_at "mm"), (by first | decide | omega), trivial, fun ax nax => ?_⟩
            obtain ⟨I5, eH_, i5, E5⟩ := stepE E4 nax (RB.mul (E4.rb (p := ta) (by walk_at "mm")) (E4.rb (p := px1) (by walk_at "mm")))
            rw [eH_]
            clear eH_
            have j5 := i1.trans (i2.trans (i3.trans (i4.trans i5)))
            clear i1 i2 i3 i4 i5 E1 E2 E3 E4
            refine ⟨_, rfl, f, _, 3, _, rfl, rfl, hf3.same j5, rfl, ?_⟩
            refine ⟨(by show 2 ≤ sizeLine; decide), fun tb ntb => ?_⟩
            obtain ⟨I6, eH_, i6, E6⟩ := litE E5 ntb (fq_int _).symm bB
            rw [eH_]
            clear eH_
            refine ⟨ax, tb, _, _, _, _, rfl, E6.get (by walk_at "mm"), E6.get (by walk_at "mm"), E6.rb (p := ax) (by walk_at "mm"), E6.rb (p := tb) (by walk_at "mm"), (by first | decide | omega), trivial, fun axb naxb => ?_⟩
            obtain ⟨I7, eH_, i7, E7⟩ := stepE E6 naxb (RB.add (E6.rb (p := ax) (by walk_at "mm")) (E6.rb (p := tb) (by walk_at "mm")))
            rw [eH_]
            clear eH_
            refine ⟨txx, axb, _, _, _, _, rfl, E7.get (by walk_at "mm"), E7.get (by walk_at "mm"), E7.rb (p := txx) (by walk_at "mm"), E7.rb (p := axb) (by walk_at "mm"), (by first | decide | omega), trivial, fun up1 nup1 => ?_⟩
            obtain ⟨I8, eH_, i8, E8⟩ := stepE E7 nup1 (RB.add (E7.rb (p := txx) (by walk_at "mm")) (E7.rb (p := axb) (by walk_at "mm")))
            rw [eH_]
            clear eH_
            first | refine sigN [some (.ref f), some (.ref p), some (.ref o), some (.ref px1), some (.ref py1), some (.ref up1), none, none] (by rfl) ?_ | refine sig [some (.ref f), some (.ref p), some (.ref o), some (.ref px1), some (.ref py1), some (.ref up1), none, none] (by rfl) ?_
            have j8 := j5.trans (i6.trans (i7.trans i8))
            clear j5 i6 i7 i8 E5 E6 E7
            refine ⟨_, rfl, _, rfl, f, _, 0, .int 0, rfl, rfl, hf3.same j8, rfl, ?_⟩
            refine ⟨(by show 2 ≤ sizeLine; decide), fun tz ntz => ?_⟩
            obtain ⟨I9, eH_, i9, E9⟩ := litE E8 ntz fq_0 RB.zero
            rw [eH_]
            clear eH_
            refine ⟨_, rfl, ?_⟩
            refine ⟨tz, py1, _, _, _, _, rfl, E9.get (by walk_at "mm"), E9.get (by walk_at "mm"), E9.rb (p := tz) (by walk_at "mm"), E9.rb (p := py1) (by walk_at "mm"), (by first | decide | omega), trivial, fun zy nzy => ?_⟩
            obtain ⟨Ia, eH_, ia, E10⟩ := stepE E9 nzy (RB.mul (E9.rb (p := tz) (by walk_at "mm")) (E9.rb (p := py1) (by walk_at "mm")))
            rw [eH_]
            clear eH_
            have E11 := E10.re (Rat.zero_mul _) RB.zero
            refine ⟨up1, zy, _, _, _, _, rfl, E11.get (by walk_at "mm"), E11.get (by walk_at "mm"), E11.rb (p := up1) (by walk_at "mm"), E11.rb (p := zy) (by walk_at "mm"), (by first | decide | omega), trivial, fun up2 nup2 => ?_⟩
            obtain ⟨Ib, eH_, ib, E12⟩ := stepE E11 nup2 (RB.sub (E11.rb (p := up1) (by walk_at "mm")) (E11.rb (p := zy) (by walk_at "mm")))
            rw [eH_]
            clear eH_
            first | refine sigN [some (.ref f), some (.ref p), some (.ref o), some (.ref px1), some (.ref py1), some (.ref up2), none, none] (by rfl) ?_ | refine sig [some (.ref f), some (.ref p), some (.ref o), some (.ref px1), some (.ref py1), some (.ref up2), none, none] (by rfl) ?_
            have jb := j8.trans (i9.trans (ia.trans ib))
            clear j8 i9 ia ib E8 E9 E10 E11
            refine ⟨_, rfl, ?_⟩
            refine ⟨(by show 2 ≤ sizeLine; decide), fun two ntwo => ?_⟩
            obtain ⟨Ic, eH_, ic, E13⟩ := litE E12 ntwo fq_2 rb_two
            rw [eH_]
            clear eH_
            refine ⟨_, rfl, ?_⟩
            refine ⟨two, py1, _, _, _, _, rfl, E13.get (by walk_at "mm"), E13.get (by walk_at "mm"), E13.rb (p := two) (by walk_at "mm"), E13.rb (p := py1) (by walk_at "mm"), (by first | decide | omega), trivial, fun ty nty => ?_⟩
            obtain ⟨Id, eH_, id, E14⟩ := stepE E13 nty (RB.mul (E13.rb (p := two) (by walk_at "mm")) (E13.rb (p := py1) (by walk_at "mm")))
            rw [eH_]
            clear eH_
            refine ⟨_, rfl, _, rfl, f, px1, e, x, rfl, hf3.same (jb.trans (ic.trans id)), E14.get (p := px1) (by walk_at "mm"), hS.up (by omega), fun tb0 ntb0 => ?_⟩
            obtain ⟨Ie, eH_, ie, E15⟩ := stepE E14 ntb0 RB.zero
            rw [eH_]
            clear eH_
            refine ⟨ty, tb0, _, _, _, _, rfl, E15.get (by walk_at "mm"), E15.get (by walk_at "mm"), E15.rb (p := ty) (by walk_at "mm"), E15.rb (p := tb0) (by walk_at "mm"), (by first | decide | omega), trivial, fun den nden => ?_⟩
            obtain ⟨If, eH_, ig, E16⟩ := stepE E15 nden (RB.add (E15.rb (p := ty) (by walk_at "mm")) (E15.rb (p := tb0) (by walk_at "mm")))
            rw [eH_]
            clear eH_
            have nden : 2 * y + 0 ≠ 0 := by grind
            refine ⟨up2, den, _, _, _, _, rfl, E16.get (by walk_at "mm"), E16.get (by walk_at "mm"), E16.rb (p := up2) (by walk_at "mm"), E16.rb (p := den) (by walk_at "mm"), (by first | decide | omega), nden, fun kk nkk => ?_⟩
            obtain ⟨Ig, eH_, ih, E17⟩ := stepE E16 nkk (RB.div nden (E16.rb (p := up2) (by walk_at "mm")) (E16.rb (p := den) (by walk_at "mm")))
            rw [eH_]
            clear eH_
            refine ⟨jb.trans (ic.trans (id.trans (ie.trans (ig.trans ih)))), _, kk, rfl, sq_eq (E17.get (p := kk) (by walk_at "mm")) ?_⟩
            rw [sl_dbl]
            grind
          · refine iteN (fun h => hsame (by
              have h1 := of_decide_eq_true h
              obtain ⟨h3, h4⟩ := Prod.mk.inj (Option.some.inj h1)
              exact ⟨h3, h4⟩)) ?_
            have nx : u - x ≠ 0 := by
              intro h0
              have hx : x = u := by grind
              subst hx
              rcases same_x onS onR with z | z
              · exact hsame ⟨rfl, z⟩
              · exact hop ⟨rfl, z⟩
            refine ⟨_, rfl, o, _, 1, .ref pv1, rfl, rfl, g4, rfl, _, rfl, ?_⟩
            refine ⟨pv1, py1, _, _, _, _, rfl, E0.get (by walk_at "mm"), E0.get (by walk_at "mm"), E0.rb (p := pv1) (by walk_at "mm"), E0.rb (p := py1) (by walk_at "mm"), (by first | decide | omega), trivial, fun d1 nd1 => ?_⟩
            obtain ⟨I1, eH_, i1, E1⟩ := stepE E0 nd1 (RB.sub (E0.rb (p := pv1) (by walk_at "mm")) (E0.rb (p := py1) (by walk_at "mm")))
            rw [eH_]
            clear eH_
            refine ⟨_, rfl, o, _, 0, .ref pu1, rfl, rfl, Same.tup i1 g4, rfl, _, rfl, ?_⟩
            refine ⟨pu1, px1, _, _, _, _, rfl, E1.get (by walk_at "mm"), E1.get (by walk_at "mm"), E1.rb (p := pu1) (by walk_at "mm"), E1.rb (p := px1) (by walk_at "mm"), (by first | decide | omega), trivial, fun d2 nd2 => ?_⟩
            obtain ⟨I2, eH_, i2, E2⟩ := stepE E1 nd2 (RB.sub (E1.rb (p := pu1) (by walk_at "mm")) (E1.rb (p := px1) (by walk_at "mm")))
            rw [eH_]
            clear eH_
            refine ⟨d1, d2, _, _, _, _, rfl, E2.get (by walk_at "mm"), E2.get (by walk_at "mm"), E2.rb (p := d1) (by walk_at "mm"), E2.rb (p := d2) (by walk_at "mm"), (by first | decide | omega), nx, fun kk nkk => ?_⟩
            obtain ⟨I3, eH_, i3, E3⟩ := stepE E2 nkk (RB.div nx (E2.rb (p := d1) (by walk_at "mm")) (E2.rb (p := d2) (by walk_at "mm")))
            rw [eH_]
            clear eH_
            refine ⟨i1.trans (i2.trans i3), _, kk, rfl, sq_eq (E3.get (p := kk) (by walk_at "mm")) ?_⟩
            rw [sl_two hsame]
        · rintro σ H4 ⟨s4, up, kk, rfl, gk⟩
          have F0 : FrE K H4 [(kk, slo e x y u v, 5 * (h + j) + 60), (px1, x, h), (py1, y, 2 * h + 15), (pu1, u, j), (pv1, v, 2 * j + 15)] := (E0.same s4).add gk kB
          obtain ⟨k, hk⟩ : ∃ k, slo e x y u v = k := ⟨_, rfl⟩
          rw [hk] at F0 q farB
          clear E0 gk kB hk
          have hf4 := hf3.same s4
          have g4' := Same.tup s4 g4
          refine ⟨_, rfl, _, rfl, ?_⟩
          refine ⟨kk, kk, _, _, _, _, rfl, F0.get (by walk_at "mm"), F0.get (by walk_at "mm"), F0.rb (p := kk) (by walk_at "mm"), F0.rb (p := kk) (by walk_at "mm"), (by first | decide | omega), trivial, fun k2 nk2 => ?_⟩
          obtain ⟨I1, eH_, i1, E1⟩ := stepE F0 nk2 (RB.mul (F0.rb (p := kk) (by walk_at "mm")) (F0.rb (p := kk) (by walk_at "mm")))
          rw [eH_]
          clear eH_
          refine ⟨_, rfl, f, _, 0, .int 0, rfl, rfl, hf4.same i1, rfl, ?_⟩
          refine ⟨(by show 2 ≤ sizeLine; decide), fun tz ntz => ?_⟩
          obtain ⟨I2, eH_, i2, E2⟩ := litE E1 ntz fq_0 RB.zero
          rw [eH_]
          clear eH_
          refine ⟨_, rfl, ?_⟩
          refine ⟨tz, kk, _, _, _, _, rfl, E2.get (by walk_at "mm"), E2.get (by walk_at "mm"), E2.rb (p := tz) (by walk_at "mm"), E2.rb (p := kk) (by walk_at "mm"), (by first | decide | omega), trivial, fun zk nzk => ?_⟩
          obtain ⟨I3, eH_, i3, E3⟩ := stepE E2 nzk (RB.mul (E2.rb (p := tz) (by walk_at "mm")) (E2.rb (p := kk) (by walk_at "mm")))
          rw [eH_]
          clear eH_
          have E4 := E3.re (Rat.zero_mul _) RB.zero
          refine ⟨k2, zk, _, _, _, _, rfl, E4.get (by walk_at "mm"), E4.get (by walk_at "mm"), E4.rb (p := k2) (by walk_at "mm"), E4.rb (p := zk) (by walk_at "mm"), (by first | decide | omega), trivial, fun k3 nk3 => ?_⟩
          obtain ⟨I4, eH_, i4, E5⟩ := stepE E4 nk3 (RB.add (E4.rb (p := k2) (by walk_at "mm")) (E4.rb (p := zk) (by walk_at "mm")))
          rw [eH_]
          clear eH_
          refine ⟨_, rfl, f, _, 1, _, rfl, rfl, hf4.same (i1.trans (i2.trans (i3.trans i4))), rfl, ?_⟩
          refine ⟨(by show 2 ≤ sizeLine; decide), fun ta nta => ?_⟩
          obtain ⟨I5, eH_, i5, E6⟩ := litE E5 nta (fq_int _).symm aB
          rw [eH_]
          clear eH_
          refine ⟨k3, ta, _, _, _, _, rfl, E6.get (by walk_at "mm"), E6.get (by walk_at "mm"), E6.rb (p := k3) (by walk_at "mm"), E6.rb (p := ta) (by walk_at "mm"), (by first | decide | omega), trivial, fun f1 nf1 => ?_⟩
          obtain ⟨I6, eH_, i6, E7⟩ := stepE E6 nf1 (RB.sub (E6.rb (p := k3) (by walk_at "mm")) (E6.rb (p := ta) (by walk_at "mm")))
          rw [eH_]
          clear eH_
          first | refine sigN [some (.ref f), some (.ref p), some (.ref o), some (.ref px1), some (.ref py1), up, some (.ref kk), some (.ref f1)] (by rfl) ?_ | refine sig [some (.ref f), some (.ref p), some (.ref o), some (.ref px1), some (.ref py1), up, some (.ref kk), some (.ref f1)] (by rfl) ?_
          have j6 := i1.trans (i2.trans (i3.trans (i4.trans (i5.trans i6))))
          clear i1 i2 i3 i4 i5 i6 E1 E2 E3 E4 E5 E6
          refine ⟨_, rfl, _, rfl, ?_⟩
          refine ⟨f1, px1, _, _, _, _, rfl, E7.get (by walk_at "mm"), E7.get (by walk_at "mm"), E7.rb (p := f1) (by walk_at "mm"), E7.rb (p := px1) (by walk_at "mm"), (by first | decide | omega), trivial, fun f2 nf2 => ?_⟩
          obtain ⟨I7, eH_, i7, E8⟩ := stepE E7 nf2 (RB.sub (E7.rb (p := f1) (by walk_at "mm")) (E7.rb (p := px1) (by walk_at "mm")))
          rw [eH_]
          clear eH_
          refine ⟨_, rfl, o, _, 0, .ref pu1, rfl, rfl, Same.tup (j6.trans i7) g4', rfl, ?_⟩
          refine ⟨f2, pu1, _, _, _, _, rfl, E8.get (by walk_at "mm"), E8.get (by walk_at "mm"), E8.rb (p := f2) (by walk_at "mm"), E8.rb (p := pu1) (by walk_at "mm"), (by first | decide | omega), trivial, fun f3 nf3 => ?_⟩
          obtain ⟨I8, eH_, i8, E9⟩ := stepE E8 nf3 (RB.sub (E8.rb (p := f2) (by walk_at "mm")) (E8.rb (p := pu1) (by walk_at "mm")))
          rw [eH_]
          clear eH_
          first | refine sigN [some (.ref f), some (.ref p), some (.ref o), some (.ref px1), some (.ref py1), up, some (.ref kk), some (.ref f3)] (by rfl) ?_ | refine sig [some (.ref f), some (.ref p), some (.ref o), some (.ref px1), some (.ref py1), up, some (.ref kk), some (.ref f3)] (by rfl) ?_
          have E10 := E9.re (b := px e k x u) (by unfold px; grind) farB
          have j8 := j6.trans (i7.trans i8)
          clear j6 i7 i8 E7 E8 E9
          refine ⟨_, rfl, _, rfl, _, rfl, _, rfl, _, rfl, _, rfl, ?_⟩
          refine ⟨f3, px1, _, _, _, _, rfl, E10.get (by walk_at "mm"), E10.get (by walk_at "mm"), E10.rb (p := f3) (by walk_at "mm"), E10.rb (p := px1) (by walk_at "mm"), (by first | decide | omega), trivial, fun hh1 nhh1 => ?_⟩
          obtain ⟨I9, eH_, i9, E11⟩ := stepE E10 nhh1 (RB.sub (E10.rb (p := f3) (by walk_at "mm")) (E10.rb (p := px1) (by walk_at "mm")))
          rw [eH_]
          clear eH_
          refine ⟨kk, hh1, _, _, _, _, rfl, E11.get (by walk_at "mm"), E11.get (by walk_at "mm"), E11.rb (p := kk) (by walk_at "mm"), E11.rb (p := hh1) (by walk_at "mm"), (by first | decide | omega), trivial, fun hh2 nhh2 => ?_⟩
          obtain ⟨Ia, eH_, ia, E12⟩ := stepE E11 nhh2 (RB.mul (E11.rb (p := kk) (by walk_at "mm")) (E11.rb (p := hh1) (by walk_at "mm")))
          rw [eH_]
          clear eH_
          refine ⟨py1, hh2, _, _, _, _, rfl, E12.get (by walk_at "mm"), E12.get (by walk_at "mm"), E12.rb (p := py1) (by walk_at "mm"), E12.rb (p := hh2) (by walk_at "mm"), (by first | decide | omega), trivial, fun hh3 nhh3 => ?_⟩
          obtain ⟨Ib, eH_, ib, E13⟩ := stepE E12 nhh3 (RB.add (E12.rb (p := py1) (by walk_at "mm")) (E12.rb (p := hh2) (by walk_at "mm")))
          rw [eH_]
          clear eH_
          refine ⟨(by show 2 ≤ sizeLine; decide), fun r nr => ?_⟩
          have ic := Same.new (H := Ib) (p := r) (o := .tup [.ref f3, .ref hh3]) nr
          have gr : upd Ib r (.tup [.ref f3, .ref hh3]) r = some (.tup [.ref f3, .ref hh3]) := upd_same
          generalize upd Ib r (.tup [.ref f3, .ref hh3]) = Ic at ic gr ⊢
          have E14 := E13.same ic
          have jc := j8.trans (i9.trans (ia.trans (ib.trans ic)))
          refine ⟨f, r, e, some (px e k x u, y + k * (px e k x u - x)), rfl, hf4.same jc, ⟨f3, hh3, tup_of gr, E14.get (p := f3) (by walk_at "mm"), E14.get (p := hh3) (by walk_at "mm")⟩, ⟨farB.up (by omega), (E14.rb (p := hh3) (by walk_at "mm")).up (by omega)⟩, fun t H' s9 ht => ?_⟩
          exact q t H' (s03.trans (s4.trans (jc.trans s9))) ht
end
end K55
set_option Elab.async false
set_option linter.all false
set_option maxRecDepth 100000
set_option maxHeartbeats 4000000
namespace K55
open PySem PySem.Spec PyProof.Rows L2 Gd QM EcM EcP
local macro_rules | `(tactic| walk_at "bd") => `(tactic| (repeat (first | assumption | apply B.add | apply B.sub | apply B.mul | apply B.neg | exact B.lit (n := 8) (by decide))))
local macro_rules | `(tactic| walk_at "bu") => `(tactic| (apply B.up; walk_at "bd"; decide))
local macro_rules | `(tactic| walk_at "bnd") => `(tactic| (apply B.mulW; walk_at "bd"; decide))
section
variable {P : Program} {w : World} {K : PySem.W.Frag} {mg : Str → Option Value} {base : Heap}
/-! ### amounts -/
def qa (q : Rat) : Rat := if 0 ≤ q.num then q else -q
theorem qa_fq (q : Rat) : [V.int (q.num.natAbs : Int), V.int (q.den : Int)] = fq (qa q) := by
  unfold qa fq
  split
  · rename_i h
    rw [show (q.num.natAbs : Int) = q.num by omega]
  · rename_i h
    rw [Rat.neg_num, Rat.neg_den, show (q.num.natAbs : Int) = -q.num by omega]
def sp_amount (K : PySem.W.Frag) : Sp := fun vs H Q _ => ∃ (f : Addr) (a : Rat), vs = [.ref f] ∧ SqT K H f (fq a) ∧ ∀ t, H t = none → Q (.ref t) (upd H t (.tup (fq (qa a))))
abbrev s_amount : Stmt := topS 23
theorem sc_amount : FnScope ["f"] ["f"] (defScope s_amount) := ⟨rfl, rfl, rfl, by decide +kernel, rfl, by decide +kernel, by decide +kernel⟩
theorem k_amount (T : Tx K mg) (D : Df K mg "amount" s_amount ["f"])  : Kl P w K mg base 1 "amount" (sp_amount K) := by
  have nd := sc_amount.nd
  refine Kl.by_body D sc_amount (fun vs H Q E h => ?_) (fun f cdv A outer s H vs Q E hr h => ?_)
  · obtain ⟨_, _, rfl, _⟩ := h
    rfl
  · obtain ⟨f, a, rfl, hf, q⟩ := h
    have hu1 := hu_of hr
    refine ⟨_, (pss_one (ps_ret (pe_tup (pa_cons (pe_callB call_abs (by rfl) T.abs (by decide +kernel) (pa_cons (pe_ix ix_tup (pv 0) pe_int (fun _ _ => rfl)) pa_nil)) (pa_cons (pe_ix ix_tup (pv 0) pe_int (fun _ _ => rfl)) pa_nil))))), ?_⟩
    refine ⟨_, rfl, f, _, 0, .int a.num, rfl, rfl, hf, rfl, a.num, rfl, _, rfl, f, _, 1, .int (a.den : Int), rfl, rfl, hf, rfl, (by show 2 ≤ sizeLine; decide), fun t nt => ?_⟩
    rw [← qa_fq, ← abs_eq] at q
    exact q t nt
def sp_law_amount : PySem.W.Frag → Sp := sp_amount
abbrev s__law_amount : Stmt := topS 54
theorem sc__law_amount : FnScope ["f"] ["f"] (defScope s__law_amount) := ⟨rfl, rfl, rfl, by decide +kernel, rfl, by decide +kernel, by decide +kernel⟩
theorem k_law_amount (T : Tx K mg) (D : Df K mg "_law_amount" s__law_amount ["f"])  : Kl P w K mg base 1 "_law_amount" (sp_law_amount K) := by
  have nd := sc__law_amount.nd
  refine Kl.by_body D sc__law_amount (fun vs H Q E h => ?_) (fun f cdv A outer s H vs Q E hr h => ?_)
  · obtain ⟨_, _, rfl, _⟩ := h
    rfl
  · obtain ⟨f, a, rfl, hf, q⟩ := h
    have hu1 := hu_of hr
    refine ⟨_, (pss_one (ps_ret (pe_tup (pa_cons (pe_callB call_abs (by rfl) T.abs (by decide +kernel) (pa_cons (pe_ix ix_tup (pv 0) pe_int (fun _ _ => rfl)) pa_nil)) (pa_cons (pe_ix ix_tup (pv 0) pe_int (fun _ _ => rfl)) pa_nil))))), ?_⟩
    refine ⟨_, rfl, f, _, 0, .int a.num, rfl, rfl, hf, rfl, a.num, rfl, _, rfl, f, _, 1, .int (a.den : Int), rfl, rfl, hf, rfl, (by show 2 ≤ sizeLine; decide), fun t nt => ?_⟩
    rw [← qa_fq, ← abs_eq] at q
    exact q t nt
/-! ### which is below -/
def bel (a b : Rat) : Prop := a.num * (b.den : Int) < b.num * (a.den : Int)
instance (a b : Rat) : Decidable (bel a b) := inferInstanceAs (Decidable (_ < _))
theorem bel_eq {a b : Rat} (h : ¬ bel a b) (k : ¬ bel b a) : a = b := by
  unfold bel at *
  have e : a.num * (b.den : Int) = b.num * (a.den : Int) := by omega
  rw [as_div a, as_div b]
  have ha := denR a
  have hb := denR b
  have e2 : (a.num : Rat) * ((b.den : Int) : Rat) = (b.num : Rat) * ((a.den : Int) : Rat) := by exact_mod_cast e
  generalize ((a.den : Int) : Rat) = p at *
  generalize ((b.den : Int) : Rat) = q at *
  grind
def sp_is_below (K : PySem.W.Frag) : Sp := fun vs H Q _ => ∃ (f g : Addr) (a b : Rat), vs = [.ref f, .ref g] ∧ SqT K H f (fq a) ∧ SqT K H g (fq b) ∧ RB 4000 a ∧ RB 4000 b ∧ Q (.bl (decide (bel a b))) H
abbrev s_is_below : Stmt := topS 13
theorem sc_is_below : FnScope ["f", "g"] ["f", "g"] (defScope s_is_below) := ⟨rfl, rfl, rfl, by decide +kernel, rfl, by decide +kernel, by decide +kernel⟩
theorem k_is_below (T : Tx K mg) (D : Df K mg "is_below" s_is_below ["f", "g"])  : Kl P w K mg base 1 "is_below" (sp_is_below K) := by
  have nd := sc_is_below.nd
  refine Kl.by_body D sc_is_below (fun vs H Q E h => ?_) (fun f cdv A outer s H vs Q E hr h => ?_)
  · obtain ⟨_, _, _, _, rfl, _⟩ := h
    rfl
  · obtain ⟨f, g, a, b, rfl, hf, hg, ha, hb, q⟩ := h
    have hu1 := hu_of hr
    refine ⟨_, (pss_one (ps_ret (pe_cmpR op_lt (pe_op op_mulW (pe_ix ix_tup (pv 0) pe_int (fun _ _ => rfl)) (pe_ix ix_tup (pv 1) pe_int (fun _ _ => rfl))) (pe_op op_mulW (pe_ix ix_tup (pv 1) pe_int (fun _ _ => rfl)) (pe_ix ix_tup (pv 0) pe_int (fun _ _ => rfl))) (nomark _)))), ?_⟩
    exact ⟨_, rfl, f, _, 0, _, rfl, rfl, hf, rfl, _, rfl, g, _, 1, _, rfl, rfl, hg, rfl, _, _, rfl, rfl, ha.n.mulW hb.d (by decide), _, rfl, g, _, 0, _, rfl, rfl, hg, rfl, _, rfl, f, _, 1, _, rfl, rfl, hf, rfl, _, _, rfl, rfl, hb.n.mulW ha.d (by decide), _, _, rfl, rfl, q⟩
/-! ### the curve of triangles -/
def sp_triangle_curve (K : PySem.W.Frag) : Sp := fun vs H Q _ => ∃ n : Int, vs = [.int n] ∧ B 100 n ∧ ∀ t, H t = none → Q (.ref t) (upd H t (.tup [.int 0, .int (-n * n), .int 0]))
abbrev s_triangle_curve : Stmt := topS 24
theorem sc_triangle_curve : FnScope ["n"] ["n"] (defScope s_triangle_curve) := ⟨rfl, rfl, rfl, by decide +kernel, rfl, by decide +kernel, by decide +kernel⟩
theorem k_triangle_curve (T : Tx K mg) (D : Df K mg "triangle_curve" s_triangle_curve ["n"])  : Kl P w K mg base 1 "triangle_curve" (sp_triangle_curve K) := by
  have nd := sc_triangle_curve.nd
  refine Kl.by_body D sc_triangle_curve (fun vs H Q E h => ?_) (fun f cdv A outer s H vs Q E hr h => ?_)
  · obtain ⟨_, rfl, _⟩ := h
    rfl
  · obtain ⟨n, rfl, hn, q⟩ := h
    have hu1 := hu_of hr
    refine ⟨_, (pss_one (ps_ret (pe_tup (pa_cons pe_int (pa_cons (pe_op op_mulW (pe_un un_neg (pv 0)) (pv 0)) (pa_cons pe_int pa_nil)))))), ?_⟩
    exact ⟨_, rfl, _, rfl, _, rfl, _, _, rfl, rfl, hn.neg.mulW hn (by decide), (by show 3 ≤ sizeLine; decide), fun t nt => q t nt⟩
end
end K55
set_option Elab.async false
set_option linter.all false
set_option maxRecDepth 100000
set_option maxHeartbeats 4000000
namespace K55
open PySem PySem.Spec PyProof.Rows L2 Gd QM EcM EcP
local macro_rules | `(tactic| walk_at "mm") => `(tactic| (repeat (first | exact List.mem_cons_self | apply List.mem_cons_of_mem)))
/-- the point of a triple -/
def tpt (n : Int) (c : C3) : Rat × Rat := ((n : Rat) * (c.1 + c.2.2) / c.2.1, ((2 * n * n : Int) : Rat) * (c.1 + c.2.2) / (c.2.1 * c.2.1))
/-- the triangle of a point -/
def told (n : Int) : Pt → Option C3
  | none => none
  | some (x, y) => if y = 0 then none else
      if bel (qa ((x * x - ((n * n : Int) : Rat)) / y)) (qa (((2 * n : Int) : Rat) * x / y)) then some (qa ((x * x - ((n * n : Int) : Rat)) / y), qa (((2 * n : Int) : Rat) * x / y), qa ((x * x + ((n * n : Int) : Rat)) / y))
      else some (qa (((2 * n : Int) : Rat) * x / y), qa ((x * x - ((n * n : Int) : Rat)) / y), qa ((x * x + ((n * n : Int) : Rat)) / y))
theorem qmul_ne {a b : Rat} (h : a ≠ 0) (k : b ≠ 0) : a * b ≠ 0 := fun z => by
  rcases Rat.mul_eq_zero.mp z with z | z
  · exact h z
  · exact k z
theorem qa_RB {m : Nat} {q : Rat} (h : RB m q) : RB m (qa q) := by
  unfold qa
  split
  · exact h
  · exact h.neg
/-- the sizes of a point whose triangle is told -/
def TB : Pt → Prop
  | none => True
  | some (x, y) => RB 800 x ∧ RB 1700 y
section
variable {P : Program} {w : World} {K : PySem.W.Frag} {mg : Str → Option Value} {base : Heap}
def sp_triangle_point (K : PySem.W.Frag) : Sp := fun vs H Q _ => ∃ (n : Int) (p : Addr) (c : C3), vs = [.int n, .ref p] ∧ B 8 n ∧ TrT K H p c ∧ RB 400 c.1 ∧ RB 400 c.2.1 ∧ RB 400 c.2.2 ∧ c.2.1 ≠ 0 ∧ ∀ t H', Same H H' → PtT K H' t (some (tpt n c)) → Q (.ref t) H'
abbrev s_triangle_point : Stmt := topS 26
theorem sc_triangle_point : FnScope ["n", "triangle", "a", "b", "c", "both"] ["n", "triangle"] (defScope s_triangle_point) := ⟨rfl, rfl, rfl, by decide +kernel, rfl, by decide +kernel, by decide +kernel⟩
theorem k_triangle_point (T : Tx K mg) (D : Df K mg "triangle_point" s_triangle_point ["n", "triangle"]) (c_plus : Kl P w K mg base 2 "plus" (sp_plus K)) (c_over : Kl P w K mg base 2 "over" (sp_over K)) (c_times : Kl P w K mg base 2 "times" (sp_times K)) : Kl P w K mg base 3 "triangle_point" (sp_triangle_point K) := by
  have nd := sc_triangle_point.nd
  refine Kl.by_body D sc_triangle_point (fun vs H Q E h => ?_) (fun f cdv A outer s H vs Q E hr h => ?_)
  · obtain ⟨_, _, _, rfl, _⟩ := h
    rfl
  · obtain ⟨n, p, ⟨c1, c2, c3⟩, rfl, hn, ⟨pa, pb, pc, h0, h1, h2, h3⟩, b1, b2, b3, nz, q⟩ := h
    have hu1 := hu_of hr
    refine ⟨_, (pss_cons (ps_asg (pv 1) (pg_tup rfl (pgs_cons (pg_name (i := 2) nd rfl (by first | exact Or.inl rfl | exact Or.inr rfl)) (pgs_cons (pg_name (i := 3) nd rfl (by first | exact Or.inl rfl | exact Or.inr rfl)) (pgs_cons (pg_name (i := 4) nd rfl (by first | exact Or.inl rfl | exact Or.inr rfl)) pgs_nil)))))
      (pss_cons (ps_set (i := 5) nd rfl (by first | exact Or.inl rfl | exact Or.inr rfl) (pe_k c_plus  hr (by decide) (by rfl) (pa_cons (pv 2) (pa_cons (pv 4) pa_nil))))
      (pss_one (ps_ret (pe_tup (pa_cons (pe_k c_over  hr (by decide) (by rfl) (pa_cons (pe_k c_times  hr (by decide) (by rfl) (pa_cons (pe_tup (pa_cons (pv 0) (pa_cons pe_int pa_nil))) (pa_cons (pv 5) pa_nil))) (pa_cons (pv 3) pa_nil))) (pa_cons (pe_k c_over  hr (by decide) (by rfl) (pa_cons (pe_k c_times  hr (by decide) (by rfl) (pa_cons (pe_tup (pa_cons (pe_op op_mulW (pe_op op_mul pe_int (pv 0)) (pv 0)) (pa_cons pe_int pa_nil))) (pa_cons (pv 5) pa_nil))) (pa_cons (pe_k c_times  hr (by decide) (by rfl) (pa_cons (pv 3) (pa_cons (pv 3) pa_nil))) pa_nil))) pa_nil))))))), ?_⟩
    replace h1 : SqT K H pa (fq c1) := h1
    replace h2 : SqT K H pb (fq c2) := h2
    replace h3 : SqT K H pc (fq c3) := h3
    replace b1 : RB 400 c1 := b1
    replace b2 : RB 400 c2 := b2
    replace b3 : RB 400 c3 := b3
    replace nz : c2 ≠ 0 := nz
    have nB : RB 8 ((n : Int) : Rat) := RB.int hn (by decide)
    have nnB : RB 19 ((2 * n * n : Int) : Rat) := RB.int (((B.lit (n := 2) (x := 2) (by decide)).mul hn).mul hn |>.up (by decide)) (by decide)
    refine ⟨_, rfl, p, _, rfl, h0, rfl, _, _, rfl, _, _, rfl, _, _, rfl, rfl, ?_⟩
    first | refine sigN [some (.int (n)), some (.ref p), some (.ref pa), some (.ref pb), some (.ref pc), none] (by rfl) ?_ | refine sig [some (.int (n)), some (.ref p), some (.ref pa), some (.ref pb), some (.ref pc), none] (by rfl) ?_
    have E0 : FrE K H [(pa, c1, 400), (pb, c2, 400), (pc, c3, 400)] := FrE.add (FrE.add (FrE.add FrE.nil h3 b3) h2 b2) h1 b1
    refine ⟨_, rfl, _, rfl, ?_⟩
    refine ⟨pa, pc, _, _, _, _, rfl, E0.get (by walk_at "mm"), E0.get (by walk_at "mm"), E0.rb (p := pa) (by walk_at "mm"), E0.rb (p := pc) (by walk_at "mm"), (by first | decide | omega), trivial, fun both nboth => ?_⟩
    obtain ⟨H1, eH_, s1, E1⟩ := stepE E0 nboth (RB.add (E0.rb (p := pa) (by walk_at "mm")) (E0.rb (p := pc) (by walk_at "mm")))
    rw [eH_]
    clear eH_
    first | refine sigN [some (.int (n)), some (.ref p), some (.ref pa), some (.ref pb), some (.ref pc), some (.ref both)] (by rfl) ?_ | refine sig [some (.int (n)), some (.ref p), some (.ref pa), some (.ref pb), some (.ref pc), some (.ref both)] (by rfl) ?_
    refine ⟨_, rfl, ?_⟩
    refine ⟨(by show 2 ≤ sizeLine; decide), fun tn ntn => ?_⟩
    obtain ⟨H2, eH_, s2, E2⟩ := litE E1 ntn (fq_int _).symm nB
    rw [eH_]
    clear eH_
    refine ⟨_, rfl, ?_⟩
    refine ⟨tn, both, _, _, _, _, rfl, E2.get (by walk_at "mm"), E2.get (by walk_at "mm"), E2.rb (p := tn) (by walk_at "mm"), E2.rb (p := both) (by walk_at "mm"), (by first | decide | omega), trivial, fun nb nnb => ?_⟩
    obtain ⟨H3, eH_, s3, E3⟩ := stepE E2 nnb (RB.mul (E2.rb (p := tn) (by walk_at "mm")) (E2.rb (p := both) (by walk_at "mm")))
    rw [eH_]
    clear eH_
    refine ⟨_, rfl, ?_⟩
    refine ⟨nb, pb, _, _, _, _, rfl, E3.get (by walk_at "mm"), E3.get (by walk_at "mm"), E3.rb (p := nb) (by walk_at "mm"), E3.rb (p := pb) (by walk_at "mm"), (by first | decide | omega), nz, fun x1 nx1 => ?_⟩
    obtain ⟨H4, eH_, s4, E4⟩ := stepE E3 nx1 (RB.div nz (E3.rb (p := nb) (by walk_at "mm")) (E3.rb (p := pb) (by walk_at "mm")))
    rw [eH_]
    clear eH_
    refine ⟨_, rfl, _, _, rfl, rfl, Or.inl ⟨by decide, by decide⟩, _, rfl, _, _, rfl, rfl, ((B.lit (n := 2) (x := 2) (by decide)).mul hn).mulW hn (by decide), ?_⟩
    refine ⟨(by show 2 ≤ sizeLine; decide), fun tnn ntnn => ?_⟩
    obtain ⟨H5, eH_, s5, E5⟩ := litE E4 ntnn (fq_int _).symm nnB
    rw [eH_]
    clear eH_
    refine ⟨_, rfl, ?_⟩
    refine ⟨tnn, both, _, _, _, _, rfl, E5.get (by walk_at "mm"), E5.get (by walk_at "mm"), E5.rb (p := tnn) (by walk_at "mm"), E5.rb (p := both) (by walk_at "mm"), (by first | decide | omega), trivial, fun nnb nnnb => ?_⟩
    obtain ⟨H6, eH_, s6, E6⟩ := stepE E5 nnnb (RB.mul (E5.rb (p := tnn) (by walk_at "mm")) (E5.rb (p := both) (by walk_at "mm")))
    rw [eH_]
    clear eH_
    refine ⟨_, rfl, _, rfl, ?_⟩
    refine ⟨pb, pb, _, _, _, _, rfl, E6.get (by walk_at "mm"), E6.get (by walk_at "mm"), E6.rb (p := pb) (by walk_at "mm"), E6.rb (p := pb) (by walk_at "mm"), (by first | decide | omega), trivial, fun bb nbb => ?_⟩
    obtain ⟨H7, eH_, s7, E7⟩ := stepE E6 nbb (RB.mul (E6.rb (p := pb) (by walk_at "mm")) (E6.rb (p := pb) (by walk_at "mm")))
    rw [eH_]
    clear eH_
    refine ⟨nnb, bb, _, _, _, _, rfl, E7.get (by walk_at "mm"), E7.get (by walk_at "mm"), E7.rb (p := nnb) (by walk_at "mm"), E7.rb (p := bb) (by walk_at "mm"), (by first | decide | omega), (qmul_ne nz nz), fun y1 ny1 => ?_⟩
    obtain ⟨H8, eH_, s8, E8⟩ := stepE E7 ny1 (RB.div (qmul_ne nz nz) (E7.rb (p := nnb) (by walk_at "mm")) (E7.rb (p := bb) (by walk_at "mm")))
    rw [eH_]
    clear eH_
    refine ⟨(by show 2 ≤ sizeLine; decide), fun r nr => ?_⟩
    have s9 := Same.new (H := H8) (p := r) (o := .tup [.ref x1, .ref y1]) nr
    have E9 := E8.same s9
    exact q r _ (s1.trans (s2.trans (s3.trans (s4.trans (s5.trans (s6.trans (s7.trans (s8.trans s9)))))))) ⟨x1, y1, tup_of upd_same, E9.get (p := x1) (by walk_at "mm"), E9.get (p := y1) (by walk_at "mm")⟩
def sp_triangle_of (K : PySem.W.Frag) : Sp := fun vs H Q _ => ∃ (n : Int) (p : Addr) (S : Pt), vs = [.int n, .ref p] ∧ B 8 n ∧ PtT K H p S ∧ TB S ∧ ∀ v H', Same H H' → TrO K H' v (told n S) → Q v H'
abbrev s_triangle_of : Stmt := topS 25
theorem sc_triangle_of : FnScope ["n", "point", "x", "y", "xx", "nn", "first", "second", "last"] ["n", "point"] (defScope s_triangle_of) := ⟨rfl, rfl, rfl, by decide +kernel, rfl, by decide +kernel, by decide +kernel⟩
theorem k_triangle_of (T : Tx K mg) (D : Df K mg "triangle_of" s_triangle_of ["n", "point"]) (c_amount : Kl P w K mg base 1 "amount" (sp_amount K)) (c_times : Kl P w K mg base 2 "times" (sp_times K)) (c_over : Kl P w K mg base 2 "over" (sp_over K)) (c_is_below : Kl P w K mg base 1 "is_below" (sp_is_below K)) (c_less : Kl P w K mg base 2 "less" (sp_less K)) (c_plus : Kl P w K mg base 2 "plus" (sp_plus K)) : Kl P w K mg base 3 "triangle_of" (sp_triangle_of K) := by
  have nd := sc_triangle_of.nd
  refine Kl.by_body D sc_triangle_of (fun vs H Q E h => ?_) (fun f cdv A outer s H vs Q E hr h => ?_)
  · obtain ⟨_, _, _, rfl, _⟩ := h
    rfl
  · obtain ⟨n, p, S, rfl, hn, hp, hB, q⟩ := h
    have hu1 := hu_of hr
    refine ⟨_, (pss_cons (ps_if (PW.pt (pw_or (pt_cmpR (op_eqD hr.units) (pv 1) (pe_tup pa_nil) (nomark _)) (pw_or1 (pt_cmpR (op_eqD hr.units) (pe_ix ix_tup (pv 1) pe_int (fun _ _ => rfl)) (pe_tup (pa_cons pe_int (pa_cons pe_int pa_nil))) (nomark _))))) (pss_one (ps_ret pe_non)) pss_nil)
      (pss_cons (ps_asg (pv 1) (pg_tup rfl (pgs_cons (pg_name (i := 2) nd rfl (by first | exact Or.inl rfl | exact Or.inr rfl)) (pgs_cons (pg_name (i := 3) nd rfl (by first | exact Or.inl rfl | exact Or.inr rfl)) pgs_nil))))
      (pss_cons (ps_par (i := 4) (j := 5) (by rfl) nd rfl rfl (by decide) rfl rfl (pa_cons (pe_k c_times  hr (by decide) (by rfl) (pa_cons (pv 2) (pa_cons (pv 2) pa_nil))) (pa_cons (pe_tup (pa_cons (pe_op op_mulW (pv 0) (pv 0)) (pa_cons pe_int pa_nil))) pa_nil)) (by rfl))
      (pss_cons (ps_set (i := 6) nd rfl (by first | exact Or.inl rfl | exact Or.inr rfl) (pe_k c_amount  hr (by decide) (by rfl) (pa_cons (pe_k c_over  hr (by decide) (by rfl) (pa_cons (pe_k c_less  hr (by decide) (by rfl) (pa_cons (pv 4) (pa_cons (pv 5) pa_nil))) (pa_cons (pv 3) pa_nil))) pa_nil)))
      (pss_cons (ps_set (i := 7) nd rfl (by first | exact Or.inl rfl | exact Or.inr rfl) (pe_k c_amount  hr (by decide) (by rfl) (pa_cons (pe_k c_over  hr (by decide) (by rfl) (pa_cons (pe_k c_times  hr (by decide) (by rfl) (pa_cons (pe_tup (pa_cons (pe_op op_mul pe_int (pv 0)) (pa_cons pe_int pa_nil))) (pa_cons (pv 2) pa_nil))) (pa_cons (pv 3) pa_nil))) pa_nil)))
      (pss_cons (ps_set (i := 8) nd rfl (by first | exact Or.inl rfl | exact Or.inr rfl) (pe_k c_amount  hr (by decide) (by rfl) (pa_cons (pe_k c_over  hr (by decide) (by rfl) (pa_cons (pe_k c_plus  hr (by decide) (by rfl) (pa_cons (pv 4) (pa_cons (pv 5) pa_nil))) (pa_cons (pv 3) pa_nil))) pa_nil)))
      (pss_one (ps_ret (pe_ifExp (pt_val (pe_k c_is_below  hr (by decide) (by rfl) (pa_cons (pv 6) (pa_cons (pv 7) pa_nil)))) (pe_tup (pa_cons (pv 6) (pa_cons (pv 7) (pa_cons (pv 8) pa_nil)))) (pe_tup (pa_cons (pv 7) (pa_cons (pv 6) (pa_cons (pv 8) pa_nil))))))))))))), ?_⟩
    have nnB : RB 16 ((n * n : Int) : Rat) := RB.int ((hn.mul hn).up (by decide)) (by decide)
    have n2B : RB 10 ((2 * n : Int) : Rat) := RB.int (((B.lit (n := 2) (x := 2) (by decide)).mul hn).up (by decide)) (by decide)
    refine ⟨_, rfl, (by show 0 ≤ sizeLine; decide), fun e ne => ?_⟩
    have s1 := Same.new (H := H) (p := e) (o := .tup []) ne
    have ge : upd H e (.tup []) e = some (.tup []) := upd_same
    generalize upd H e (.tup []) = H1 at s1 ge ⊢
    cases S with
    | none =>
      refine ⟨dP none, .tuple [], dp_pt (hp.same s1), dp0 (tup_of ge), sh_P none, rfl, _, rfl, iteT ?_⟩
      exact q _ _ s1 rfl
    | some S =>
      obtain ⟨x, y⟩ := S
      obtain ⟨a, b, h1, h2, h3⟩ := hp
      obtain ⟨xB, yB⟩ := hB
      refine ⟨dP (some (x, y)), .tuple [], dp_pt ⟨a, b, Same.tup s1 h1, Same.tup s1 h2, Same.tup s1 h3⟩, dp0 (tup_of ge), sh_P (some (x, y)), rfl, _, rfl, iteF ?_⟩
      refine ⟨_, rfl, p, _, 1, .ref b, rfl, rfl, Same.tup s1 h1, rfl, (by show 2 ≤ sizeLine; decide), fun z nz => ?_⟩
      have s2 := Same.new (H := H1) (p := z) (o := .tup [.int 0, .int 1]) nz
      have gz : upd H1 z (.tup [.int 0, .int 1]) z = some (.tup [.int 0, .int 1]) := upd_same
      generalize upd H1 z (.tup [.int 0, .int 1]) = H2 at s2 gz ⊢
      have s02 := s1.trans s2
      refine ⟨dq y, dq 0, dp_q (Same.tup s02 h3), dp_q (q := 0) (tup_of gz), rfl, rfl, _, rfl, ?_⟩
      rw [eqv_q]
      by_cases y0 : y = 0
      · refine iteY (decide_eq_true y0) ?_
        refine q _ _ s02 ?_
        rw [show told n (some (x, y)) = none from if_pos y0]
        rfl
      refine iteN (by simpa using y0) ?_
      have et : told n (some (x, y)) = _ := if_neg y0
      rw [et] at q
      have h1' := Same.tup s02 h1
      refine ⟨_, rfl, p, _, rfl, h1', rfl, _, _, rfl, _, _, rfl, rfl, ?_⟩
      first | refine sigN [some (.int (n)), some (.ref p), some (.ref a), some (.ref b), none, none, none, none, none] (by rfl) ?_ | refine sig [some (.int (n)), some (.ref p), some (.ref a), some (.ref b), none, none, none, none, none] (by rfl) ?_
      have E0 : FrE K H2 [(a, x, 800), (b, y, 1700)] := FrE.add (FrE.add FrE.nil (Same.tup s02 h3) yB) (Same.tup s02 h2) xB
      refine ⟨_, rfl, _, rfl, ?_⟩
      refine ⟨a, a, _, _, _, _, rfl, E0.get (by walk_at "mm"), E0.get (by walk_at "mm"), E0.rb (p := a) (by walk_at "mm"), E0.rb (p := a) (by walk_at "mm"), (by first | decide | omega), trivial, fun xx nxx => ?_⟩
      obtain ⟨H3, eH_, s3, E1⟩ := stepE E0 nxx (RB.mul (E0.rb (p := a) (by walk_at "mm")) (E0.rb (p := a) (by walk_at "mm")))
      rw [eH_]
      clear eH_
      refine ⟨_, rfl, _, rfl, _, _, rfl, rfl, hn.mulW hn (by decide), ?_⟩
      refine ⟨(by show 2 ≤ sizeLine; decide), fun nn nnn => ?_⟩
      obtain ⟨H4, eH_, s4, E2⟩ := litE E1 nnn (fq_int _).symm nnB
      rw [eH_]
      clear eH_
      refine ⟨_, _, rfl, ?_⟩
      first | refine sigN [some (.int (n)), some (.ref p), some (.ref a), some (.ref b), some (.ref xx), some (.ref nn), none, none, none] (by rfl) ?_ | refine sig [some (.int (n)), some (.ref p), some (.ref a), some (.ref b), some (.ref xx), some (.ref nn), none, none, none] (by rfl) ?_
      refine ⟨_, rfl, _, rfl, ?_⟩
      refine ⟨xx, nn, _, _, _, _, rfl, E2.get (by walk_at "mm"), E2.get (by walk_at "mm"), E2.rb (p := xx) (by walk_at "mm"), E2.rb (p := nn) (by walk_at "mm"), (by first | decide | omega), trivial, fun f1 nf1 => ?_⟩
      obtain ⟨H5, eH_, s5, E3⟩ := stepE E2 nf1 (RB.sub (E2.rb (p := xx) (by walk_at "mm")) (E2.rb (p := nn) (by walk_at "mm")))
      rw [eH_]
      clear eH_
      refine ⟨_, rfl, ?_⟩
      refine ⟨f1, b, _, _, _, _, rfl, E3.get (by walk_at "mm"), E3.get (by walk_at "mm"), E3.rb (p := f1) (by walk_at "mm"), E3.rb (p := b) (by walk_at "mm"), (by first | decide | omega), y0, fun f2 nf2 => ?_⟩
      obtain ⟨H6, eH_, s6, E4⟩ := stepE E3 nf2 (RB.div y0 (E3.rb (p := f1) (by walk_at "mm")) (E3.rb (p := b) (by walk_at "mm")))
      rw [eH_]
      clear eH_
      refine ⟨f2, _, rfl, E4.get (p := f2) (by walk_at "mm"), fun f3 nf3 => ?_⟩
      obtain ⟨H7, eH_, s7, E5⟩ := stepE E4 nf3 (qa_RB (E4.rb (p := f2) (by walk_at "mm")))
      rw [eH_]
      clear eH_
      first | refine sigN [some (.int (n)), some (.ref p), some (.ref a), some (.ref b), some (.ref xx), some (.ref nn), some (.ref f3), none, none] (by rfl) ?_ | refine sig [some (.int (n)), some (.ref p), some (.ref a), some (.ref b), some (.ref xx), some (.ref nn), some (.ref f3), none, none] (by rfl) ?_
      refine ⟨_, rfl, _, _, rfl, rfl, Or.inl ⟨by decide, by decide⟩, ?_⟩
      refine ⟨(by show 2 ≤ sizeLine; decide), fun tn ntn => ?_⟩
      obtain ⟨H8, eH_, s8, E6⟩ := litE E5 ntn (fq_int _).symm n2B
      rw [eH_]
      clear eH_
      refine ⟨_, rfl, ?_⟩
      refine ⟨tn, a, _, _, _, _, rfl, E6.get (by walk_at "mm"), E6.get (by walk_at "mm"), E6.rb (p := tn) (by walk_at "mm"), E6.rb (p := a) (by walk_at "mm"), (by first | decide | omega), trivial, fun g1 ng1 => ?_⟩
      obtain ⟨H9, eH_, s9, E7⟩ := stepE E6 ng1 (RB.mul (E6.rb (p := tn) (by walk_at "mm")) (E6.rb (p := a) (by walk_at "mm")))
      rw [eH_]
      clear eH_
      refine ⟨_, rfl, ?_⟩
      refine ⟨g1, b, _, _, _, _, rfl, E7.get (by walk_at "mm"), E7.get (by walk_at "mm"), E7.rb (p := g1) (by walk_at "mm"), E7.rb (p := b) (by walk_at "mm"), (by first | decide | omega), y0, fun g2 ng2 => ?_⟩
      obtain ⟨Ha, eH_, sa, E8⟩ := stepE E7 ng2 (RB.div y0 (E7.rb (p := g1) (by walk_at "mm")) (E7.rb (p := b) (by walk_at "mm")))
      rw [eH_]
      clear eH_
      refine ⟨g2, _, rfl, E8.get (p := g2) (by walk_at "mm"), fun g3 ng3 => ?_⟩
      obtain ⟨Hb, eH_, sb, E9⟩ := stepE E8 ng3 (qa_RB (E8.rb (p := g2) (by walk_at "mm")))
      rw [eH_]
      clear eH_
      first | refine sigN [some (.int (n)), some (.ref p), some (.ref a), some (.ref b), some (.ref xx), some (.ref nn), some (.ref f3), some (.ref g3), none] (by rfl) ?_ | refine sig [some (.int (n)), some (.ref p), some (.ref a), some (.ref b), some (.ref xx), some (.ref nn), some (.ref f3), some (.ref g3), none] (by rfl) ?_
      refine ⟨_, rfl, _, rfl, ?_⟩
      refine ⟨xx, nn, _, _, _, _, rfl, E9.get (by walk_at "mm"), E9.get (by walk_at "mm"), E9.rb (p := xx) (by walk_at "mm"), E9.rb (p := nn) (by walk_at "mm"), (by first | decide | omega), trivial, fun k1 nk1 => ?_⟩
      obtain ⟨Hc, eH_, sc, E10⟩ := stepE E9 nk1 (RB.add (E9.rb (p := xx) (by walk_at "mm")) (E9.rb (p := nn) (by walk_at "mm")))
      rw [eH_]
      clear eH_
      refine ⟨_, rfl, ?_⟩
      refine ⟨k1, b, _, _, _, _, rfl, E10.get (by walk_at "mm"), E10.get (by walk_at "mm"), E10.rb (p := k1) (by walk_at "mm"), E10.rb (p := b) (by walk_at "mm"), (by first | decide | omega), y0, fun k2 nk2 => ?_⟩
      obtain ⟨Hd, eH_, sd, E11⟩ := stepE E10 nk2 (RB.div y0 (E10.rb (p := k1) (by walk_at "mm")) (E10.rb (p := b) (by walk_at "mm")))
      rw [eH_]
      clear eH_
      refine ⟨k2, _, rfl, E11.get (p := k2) (by walk_at "mm"), fun k3 nk3 => ?_⟩
      obtain ⟨He, eH_, se, E12⟩ := stepE E11 nk3 (qa_RB (E11.rb (p := k2) (by walk_at "mm")))
      rw [eH_]
      clear eH_
      first | refine sigN [some (.int (n)), some (.ref p), some (.ref a), some (.ref b), some (.ref xx), some (.ref nn), some (.ref f3), some (.ref g3), some (.ref k3)] (by rfl) ?_ | refine sig [some (.int (n)), some (.ref p), some (.ref a), some (.ref b), some (.ref xx), some (.ref nn), some (.ref f3), some (.ref g3), some (.ref k3)] (by rfl) ?_
      have sA := s02.trans (s3.trans (s4.trans (s5.trans (s6.trans (s7.trans (s8.trans (s9.trans (sa.trans (sb.trans (sc.trans (sd.trans se)))))))))))
      have gf := E12.get (p := f3) (by walk_at "mm")
      have gg := E12.get (p := g3) (by walk_at "mm")
      have gk := E12.get (p := k3) (by walk_at "mm")
      refine ⟨_, rfl, _, rfl, f3, g3, _, _, rfl, gf, gg, (E12.rb (p := f3) (by walk_at "mm")).up (by decide), (E12.rb (p := g3) (by walk_at "mm")).up (by decide), ?_⟩
      refine ⟨_, rfl, ?_⟩
      by_cases hb : bel (qa ((x * x - ((n * n : Int) : Rat)) / y)) (qa (((2 * n : Int) : Rat) * x / y))
      · refine iteY (decide_eq_true hb) ?_
        rw [if_pos hb] at q
        refine ⟨_, rfl, _, rfl, _, rfl, (by show 3 ≤ sizeLine; decide), fun r nr => ?_⟩
        have sr := Same.new (H := He) (p := r) (o := .tup [.ref f3, .ref g3, .ref k3]) nr
        exact q _ _ (sA.trans sr) ⟨r, rfl, f3, g3, k3, tup_of upd_same, Same.tup sr gf, Same.tup sr gg, Same.tup sr gk⟩
      · refine iteN (by simpa using hb) ?_
        rw [if_neg hb] at q
        refine ⟨_, rfl, _, rfl, _, rfl, (by show 3 ≤ sizeLine; decide), fun r nr => ?_⟩
        have sr := Same.new (H := He) (p := r) (o := .tup [.ref g3, .ref f3, .ref k3]) nr
        exact q _ _ (sA.trans sr) ⟨r, rfl, g3, f3, k3, tup_of upd_same, Same.tup sr gg, Same.tup sr gf, Same.tup sr gk⟩
theorem told_turn {n : Int} {x y : Rat} (y0 : y ≠ 0) : told n (some (x, y)) = if bel (qa (((2 * n : Int) : Rat) * x / y)) (qa ((x * x - ((n * n : Int) : Rat)) / y)) then some (qa (((2 * n : Int) : Rat) * x / y), qa ((x * x - ((n * n : Int) : Rat)) / y), qa ((x * x + ((n * n : Int) : Rat)) / y)) else some (qa ((x * x - ((n * n : Int) : Rat)) / y), qa (((2 * n : Int) : Rat) * x / y), qa ((x * x + ((n * n : Int) : Rat)) / y)) := by
  have e : told n (some (x, y)) = _ := if_neg y0
  rw [e]
  generalize qa ((x * x - ((n * n : Int) : Rat)) / y) = a
  generalize qa (((2 * n : Int) : Rat) * x / y) = b
  by_cases h : bel a b
  · have h2 : ¬ bel b a := by
      unfold bel at *
      omega
    rw [if_pos h, if_neg h2]
  · rw [if_neg h]
    by_cases h2 : bel b a
    · rw [if_pos h2]
    · rw [if_neg h2, bel_eq h h2]
end
end K55
set_option Elab.async false
set_option linter.all false
set_option maxRecDepth 100000
set_option maxHeartbeats 4000000
namespace K55
open PySem PySem.Spec PyProof.Rows L2 Gd QM EcM EcP
/-! ### triangles: plain -/
/-- (a, b, c) is a right triangle of n, its sides of any signs -/
structure Tri (n : Int) (c : C3) : Prop where
  n0 : 0 < n
  s : c.1 * c.1 + c.2.1 * c.2.1 = c.2.2 * c.2.2
  p : c.1 * c.2.1 = ((2 * n : Int) : Rat)
theorem n_ne {n : Int} (h : 0 < n) : (n : Rat) ≠ 0 := fun z => by
  have : n = 0 := by exact_mod_cast z
  omega
theorem two_n (n : Int) : ((2 * n : Int) : Rat) = 2 * (n : Rat) := by
  push_cast
  rfl
theorem Tri.b0 {n : Int} {c : C3} (h : Tri n c) : c.2.1 ≠ 0 := fun z => by
  have h1 := h.p
  rw [z, Rat.mul_zero, two_n] at h1
  have := n_ne h.n0
  grind
theorem Tri.a0 {n : Int} {c : C3} (h : Tri n c) : c.1 ≠ 0 := fun z => by
  have h1 := h.p
  rw [z, Rat.zero_mul, two_n] at h1
  have := n_ne h.n0
  grind
theorem Tri.ac {n : Int} {c : C3} (h : Tri n c) : c.1 + c.2.2 ≠ 0 := fun z => by
  have h1 := h.s
  have h2 := h.b0
  have e : c.2.2 = -c.1 := by grind
  rw [e] at h1
  have h3 : c.2.1 * c.2.1 = 0 := by grind
  rcases Rat.mul_eq_zero.mp h3 with z | z <;> exact h2 z
/-- the curve of n -/
def en (n : Int) : Ec := ⟨0, -n * n, 0⟩
theorem en_f (n : Int) (x : Rat) : (en n).f x = x * x * x - (n : Rat) * n * x := by
  unfold Ec.f en
  push_cast
  grind
theorem div_is {a b q : Rat} (h : b ≠ 0) (e : q = a / b) : q * b = a := by
  rw [e, Rat.div_mul_cancel h]
theorem is_div {a b q : Rat} (h : b ≠ 0) (e : q * b = a) : a / b = q := by
  rw [← e, Rat.mul_div_cancel h]
theorem tpt_x {n : Int} {c : C3} (h : Tri n c) : (tpt n c).1 * c.2.1 = (n : Rat) * (c.1 + c.2.2) := div_is h.b0 rfl
theorem tpt_y {n : Int} {c : C3} (h : Tri n c) : (tpt n c).2 * (c.2.1 * c.2.1) = 2 * (n : Rat) * n * (c.1 + c.2.2) := by
  have := div_is (qmul_ne h.b0 h.b0) (show (tpt n c).2 = ((2 * n * n : Int) : Rat) * (c.1 + c.2.2) / (c.2.1 * c.2.1) from rfl)
  rw [this]
  push_cast
  rfl
theorem tpt_y0 {n : Int} {c : C3} (h : Tri n c) : (tpt n c).2 ≠ 0 := fun z => by
  have h1 := tpt_y h
  have h2 := h.ac
  have h3 := n_ne h.n0
  rw [z, Rat.zero_mul] at h1
  have h4 : (n : Rat) * ((n : Rat) * (c.1 + c.2.2)) = 0 := by grind
  rcases Rat.mul_eq_zero.mp h4 with z | z
  · exact h3 z
  · rcases Rat.mul_eq_zero.mp z with z | z
    · exact h3 z
    · exact h2 z
theorem cancel {a b k : Rat} (h : k ≠ 0) (e : a * k = b * k) : a = b := by
  have : (a - b) * k = 0 := by grind
  rcases Rat.mul_eq_zero.mp this with z | z
  · grind
  · exact absurd z h
theorem tpt_on {n : Int} {c : C3} (h : Tri n c) : On (en n) (some (tpt n c)) := by
  show (tpt n c).2 * (tpt n c).2 = (en n).f (tpt n c).1
  rw [en_f]
  have e1 := tpt_x h
  have e2 := tpt_y h
  have hb := h.b0
  have hs := h.s
  have hp := h.p
  rw [two_n] at hp
  obtain ⟨a, b, d⟩ := c
  obtain ⟨x, hx⟩ : ∃ x, (tpt n (a, b, d)).1 = x := ⟨_, rfl⟩
  obtain ⟨y, hy⟩ : ∃ x, (tpt n (a, b, d)).2 = x := ⟨_, rfl⟩
  rw [hx] at e1 ⊢
  rw [hy] at e2 ⊢
  replace e1 : x * b = (n : Rat) * (a + d) := e1
  replace e2 : y * (b * b) = 2 * (n : Rat) * n * (a + d) := e2
  replace hb : b ≠ 0 := hb
  replace hs : a * a + b * b = d * d := hs
  replace hp : a * b = 2 * (n : Rat) := hp
  generalize (n : Rat) = n at *
  have hb4 : b * b * (b * b) ≠ 0 := qmul_ne (qmul_ne hb hb) (qmul_ne hb hb)
  apply cancel hb4
  have l : y * y * (b * b * (b * b)) = (2 * n * n * (a + d)) * (2 * n * n * (a + d)) := by grind
  have r : (x * x * x - n * n * x) * (b * b * (b * b)) = ((n * (a + d)) * (n * (a + d)) * (n * (a + d)) - n * n * (n * (a + d)) * (b * b)) * b := by
    rw [← e1]
    grind
  rw [l, r]
  have k : (a + d) * (a + d) - b * b = 2 * a * (a + d) := by grind
  have k2 : ((n * (a + d)) * (n * (a + d)) * (n * (a + d)) - n * n * (n * (a + d)) * (b * b)) * b = n * n * n * (a + d) * ((a + d) * (a + d) - b * b) * b := by grind
  rw [k2, k]
  have k3 : n * n * n * (a + d) * (2 * a * (a + d)) * b = n * n * n * (a + d) * (a + d) * 2 * (a * b) := by grind
  rw [k3, hp]
  grind
/-- the sides are found again -/
theorem tpt_back {n : Int} {c : C3} (h : Tri n c) : ((tpt n c).1 * (tpt n c).1 - ((n * n : Int) : Rat)) / (tpt n c).2 = c.1 ∧ ((2 * n : Int) : Rat) * (tpt n c).1 / (tpt n c).2 = c.2.1 ∧ ((tpt n c).1 * (tpt n c).1 + ((n * n : Int) : Rat)) / (tpt n c).2 = c.2.2 := by
  have e1 := tpt_x h
  have e2 := tpt_y h
  have hb := h.b0
  have hs := h.s
  have y0 := tpt_y0 h
  have enn : ((n * n : Int) : Rat) = (n : Rat) * n := by
    push_cast
    rfl
  rw [two_n, enn]
  obtain ⟨a, b, d⟩ := c
  obtain ⟨x, hx⟩ : ∃ x, (tpt n (a, b, d)).1 = x := ⟨_, rfl⟩
  obtain ⟨y, hy⟩ : ∃ x, (tpt n (a, b, d)).2 = x := ⟨_, rfl⟩
  rw [hx] at e1 ⊢
  rw [hy] at e2 y0 ⊢
  replace e1 : x * b = (n : Rat) * (a + d) := e1
  replace e2 : y * (b * b) = 2 * (n : Rat) * n * (a + d) := e2
  replace hb : b ≠ 0 := hb
  replace hs : a * a + b * b = d * d := hs
  generalize (n : Rat) = n at *
  have hbb : b * b ≠ 0 := qmul_ne hb hb
  refine ⟨is_div y0 (cancel hbb ?_), is_div y0 (cancel hbb ?_), is_div y0 (cancel hbb ?_)⟩
  · show a * y * (b * b) = (x * x - n * n) * (b * b)
    have l : (x * x - n * n) * (b * b) = (x * b) * (x * b) - n * n * (b * b) := by grind
    rw [l, e1]
    have l2 : a * y * (b * b) = a * (y * (b * b)) := by grind
    rw [l2, e2]
    grind
  · show b * y * (b * b) = 2 * n * x * (b * b)
    have l2 : b * y * (b * b) = b * (y * (b * b)) := by grind
    have l : 2 * n * x * (b * b) = 2 * n * (x * b) * b := by grind
    rw [l, l2, e1, e2]
    grind
  · show d * y * (b * b) = (x * x + n * n) * (b * b)
    have l : (x * x + n * n) * (b * b) = (x * b) * (x * b) + n * n * (b * b) := by grind
    rw [l, e1]
    have l2 : d * y * (b * b) = d * (y * (b * b)) := by grind
    rw [l2, e2]
    grind
def srt (c : C3) : C3 := if bel (qa c.1) (qa c.2.1) then (qa c.1, qa c.2.1, qa c.2.2) else (qa c.2.1, qa c.1, qa c.2.2)
theorem told_tpt {n : Int} {c : C3} (h : Tri n c) : told n (some (tpt n c)) = some (srt c) := by
  obtain ⟨e1, e2, e3⟩ := tpt_back h
  have e : told n (some (tpt n c)) = _ := if_neg (tpt_y0 h)
  rw [e]
  show (if bel (qa (((tpt n c).1 * (tpt n c).1 - ((n * n : Int) : Rat)) / (tpt n c).2)) (qa (((2 * n : Int) : Rat) * (tpt n c).1 / (tpt n c).2)) then some (qa (((tpt n c).1 * (tpt n c).1 - ((n * n : Int) : Rat)) / (tpt n c).2), qa (((2 * n : Int) : Rat) * (tpt n c).1 / (tpt n c).2), qa (((tpt n c).1 * (tpt n c).1 + ((n * n : Int) : Rat)) / (tpt n c).2)) else some (qa (((2 * n : Int) : Rat) * (tpt n c).1 / (tpt n c).2), qa (((tpt n c).1 * (tpt n c).1 - ((n * n : Int) : Rat)) / (tpt n c).2), qa (((tpt n c).1 * (tpt n c).1 + ((n * n : Int) : Rat)) / (tpt n c).2))) = some (srt c)
  rw [e1, e2, e3]
  unfold srt
  split <;> rfl
end K55
set_option Elab.async false
set_option linter.all false
set_option maxRecDepth 100000
set_option maxHeartbeats 4000000
namespace K55
open PySem PySem.Spec PyProof.Rows L2 Gd QM EcM EcP
/-! ### amounts -/
theorem qa_cases (q : Rat) : qa q = q ∨ qa q = -q := by
  unfold qa
  split
  · exact .inl rfl
  · exact .inr rfl
theorem qa_num (q : Rat) : 0 ≤ (qa q).num := by
  unfold qa
  split
  · rename_i h
    exact h
  · rename_i h
    rw [Rat.neg_num]
    omega
theorem qa_sq (q : Rat) : qa q * qa q = q * q := by
  rcases qa_cases q with h | h <;> rw [h] <;> grind
theorem qa_ne {q : Rat} (h : q ≠ 0) : qa q ≠ 0 := fun z => by
  have := qa_sq q
  rw [z] at this
  have h2 : q * q = 0 := by grind
  rcases Rat.mul_eq_zero.mp h2 with z | z <;> exact h z
theorem num_pos_of {q : Rat} (h : 0 ≤ q.num) (k : q ≠ 0) : 0 < q.num := by
  have := num_ne k
  omega
theorem nn_of {q : Rat} (h : 0 ≤ q.num) : 0 ≤ q := Rat.num_nonneg.mp h
theorem sq_nn {a b : Rat} (ha : 0 ≤ a) (hb : 0 ≤ b) (h : a * a = b * b) : a = b := by
  have h1 : SqQ (b * b) (some a) := ⟨ha, h⟩
  have h2 : SqQ (b * b) (some b) := ⟨hb, rfl⟩
  exact Option.some.inj (h1.uniq h2)
theorem qa_mul {u v w : Rat} (hw : 0 ≤ w) (h : u * v = w) : qa u * qa v = w := by
  apply sq_nn (Rat.mul_nonneg (nn_of (qa_num u)) (nn_of (qa_num v))) hw
  have h1 := qa_sq u
  have h2 := qa_sq v
  rw [← h]
  have l : qa u * qa v * (qa u * qa v) = (qa u * qa u) * (qa v * qa v) := by grind
  rw [l, h1, h2]
  grind
/-- a triangle with sides above nought -/
structure Pos (c : C3) : Prop where
  a : 0 < c.1.num
  b : 0 < c.2.1.num
  c : 0 < c.2.2.num
theorem two_n0 {n : Int} (h : 0 < n) : (0 : Rat) ≤ ((2 * n : Int) : Rat) := by
  have h2 : ((0 : Int) : Rat) ≤ ((2 * n : Int) : Rat) := Rat.intCast_le_intCast.mpr (by omega)
  exact h2
theorem told_tri {n : Int} {x y : Rat} (n0 : 0 < n) (o : On (en n) (some (x, y))) (y0 : y ≠ 0) :
    Tri n (qa ((x * x - ((n * n : Int) : Rat)) / y), qa (((2 * n : Int) : Rat) * x / y), qa ((x * x + ((n * n : Int) : Rat)) / y)) ∧ Pos (qa ((x * x - ((n * n : Int) : Rat)) / y), qa (((2 * n : Int) : Rat) * x / y), qa ((x * x + ((n * n : Int) : Rat)) / y)) := by
  replace o : y * y = (en n).f x := o
  rw [en_f] at o
  have enn : ((n * n : Int) : Rat) = (n : Rat) * n := by
    push_cast
    rfl
  have hw := two_n0 n0
  have e2 := two_n n
  rw [enn]
  obtain ⟨a, ha⟩ : ∃ a, (x * x - (n : Rat) * n) / y = a := ⟨_, rfl⟩
  obtain ⟨b, hb⟩ : ∃ a, ((2 * n : Int) : Rat) * x / y = a := ⟨_, rfl⟩
  obtain ⟨c, hc⟩ : ∃ a, (x * x + (n : Rat) * n) / y = a := ⟨_, rfl⟩
  rw [ha, hb, hc]
  have fa := div_is y0 ha.symm
  have fb := div_is y0 hb.symm
  have fc := div_is y0 hc.symm
  have n1 := n_ne n0
  have p : a * b = ((2 * n : Int) : Rat) := by
    rw [e2] at fb ⊢
    apply cancel (qmul_ne y0 y0)
    have l : a * b * (y * y) = (a * y) * (b * y) := by grind
    rw [l, fa, fb, o]
    grind
  have s : a * a + b * b = c * c := by
    rw [e2] at fb
    apply cancel (qmul_ne y0 y0)
    have l : (a * a + b * b) * (y * y) = (a * y) * (a * y) + (b * y) * (b * y) := by grind
    have r : c * c * (y * y) = (c * y) * (c * y) := by grind
    rw [l, r, fa, fb, fc]
    grind
  have t : Tri n (qa a, qa b, qa c) := ⟨n0, by show qa a * qa a + qa b * qa b = qa c * qa c; rw [qa_sq, qa_sq, qa_sq, s], qa_mul hw p⟩
  refine ⟨t, num_pos_of (qa_num a) t.a0, num_pos_of (qa_num b) t.b0, num_pos_of (qa_num c) ?_⟩
  intro z
  replace z : qa c = 0 := z
  have h1 := t.s
  replace h1 : qa a * qa a + qa b * qa b = qa c * qa c := h1
  rw [z, Rat.mul_zero] at h1
  have h2 : (0 : Rat) ≤ qa a * qa a := Rat.mul_nonneg (nn_of (qa_num a)) (nn_of (qa_num a))
  have h3 : (0 : Rat) ≤ qa b * qa b := Rat.mul_nonneg (nn_of (qa_num b)) (nn_of (qa_num b))
  have h4 : qa a * qa a = 0 := by
    grind
  rcases Rat.mul_eq_zero.mp h4 with z | z <;> exact t.a0 z
theorem Tri.swap {n : Int} {a b c : Rat} (h : Tri n (a, b, c)) : Tri n (b, a, c) := ⟨h.n0, by show b * b + a * a = c * c; rw [Rat.add_comm]; exact h.s, by show b * a = _; rw [Rat.mul_comm]; exact h.p⟩
theorem told_ok {n : Int} {x y : Rat} {c : C3} (n0 : 0 < n) (o : On (en n) (some (x, y))) (h : told n (some (x, y)) = some c) : Tri n c ∧ Pos c := by
  by_cases y0 : y = 0
  · have : told n (some (x, y)) = none := if_pos y0
    rw [this] at h
    cases h
  · obtain ⟨t, p⟩ := told_tri n0 o y0
    have e : told n (some (x, y)) = _ := if_neg y0
    rw [e] at h
    split at h
    · obtain rfl := Option.some.inj h
      exact ⟨t, p⟩
    · obtain rfl := Option.some.inj h
      exact ⟨t.swap, p.b, p.a, p.c⟩
/-! ### sizes -/
theorem en_bd {n : Int} (h : B 7 n) : (en n).Bd 15 := ⟨by decide, Z.lit (x := 0) (by decide), ((B.neg h).mul h).up (by decide), Z.lit (x := 0) (by decide)⟩
theorem side_RB {n : Int} {x y : Rat} {h : Nat} (hn : B 7 n) (o : On (en n) (some (x, y))) (y0 : y ≠ 0) (hB : RB h x) :
    RB (2 * h + 15) ((x * x - ((n * n : Int) : Rat)) / y) ∧ RB (2 * h + 15) (((2 * n : Int) : Rat) * x / y) ∧ RB (2 * h + 15) ((x * x + ((n * n : Int) : Rat)) / y) := by
  obtain ⟨Y, hY, zY⟩ := y_is (show y * y = (en n).f x from o) hB (en_bd hn)
  have ex := x_num x
  have dx := denR x
  have zA : Z h x.num := hB.1
  have zD : Z h (x.den : Int) := hB.2
  have zn : Z 7 n := hn
  have Y0 : Y ≠ 0 := fun z => by
    rw [z] at hY
    have h1 : y * (((x.den : Int) : Rat) * ((x.den : Int) : Rat)) ≠ 0 := qmul_ne y0 (qmul_ne dx dx)
    exact h1 hY
  refine ⟨rb_of (d := Y) (n := x.num * x.num - n * n * ((x.den : Int) * (x.den : Int))) ?_ Y0 ?_ zY, rb_of (d := Y) (n := 2 * n * (x.num * (x.den : Int))) ?_ Y0 ?_ zY, rb_of (d := Y) (n := x.num * x.num + n * n * ((x.den : Int) * (x.den : Int))) ?_ Y0 ?_ zY⟩
  · have f := div_is y0 (show (x * x - ((n * n : Int) : Rat)) / y = _ from rfl)
    rw [← hY]
    generalize (x * x - ((n * n : Int) : Rat)) / y = q at f ⊢
    rw [Rat.intCast_sub, Rat.intCast_mul, Rat.intCast_mul, Rat.intCast_mul (x.den : Int), ← ex]
    generalize ((x.den : Int) : Rat) = d at *
    have l : q * (y * (d * d)) = q * y * (d * d) := by grind
    rw [l, f]
    grind
  · exact ((zA.mul zA).up (by omega)).sub (n := 2 * h + 15) (m := 2 * h + 14) (((zn.mul zn).mul (zD.mul zD)).up (by omega)) (by omega)
  · have f := div_is y0 (show ((2 * n : Int) : Rat) * x / y = _ from rfl)
    rw [← hY]
    generalize ((2 * n : Int) : Rat) * x / y = q at f ⊢
    rw [Rat.intCast_mul (2 * n), Rat.intCast_mul x.num, ← ex]
    generalize ((x.den : Int) : Rat) = d at *
    have l : q * (y * (d * d)) = q * y * (d * d) := by grind
    rw [l, f]
    grind
  · exact (((Z.lit (n := 2) (x := 2) (by decide)).mul zn).mul (zA.mul zD)).up (by omega)
  · have f := div_is y0 (show (x * x + ((n * n : Int) : Rat)) / y = _ from rfl)
    rw [← hY]
    generalize (x * x + ((n * n : Int) : Rat)) / y = q at f ⊢
    rw [Rat.intCast_add, Rat.intCast_mul, Rat.intCast_mul, Rat.intCast_mul (x.den : Int), ← ex]
    generalize ((x.den : Int) : Rat) = d at *
    have l : q * (y * (d * d)) = q * y * (d * d) := by grind
    rw [l, f]
    grind
  · exact ((zA.mul zA).up (by omega)).add (n := 2 * h + 15) (m := 2 * h + 14) (((zn.mul zn).mul (zD.mul zD)).up (by omega)) (by omega)
theorem told_CB {n : Int} {x y : Rat} {c : C3} {h : Nat} (hn : B 7 n) (o : On (en n) (some (x, y))) (hB : RB h x) (k : told n (some (x, y)) = some c) : RB (2 * h + 15) c.1 ∧ RB (2 * h + 15) c.2.1 ∧ RB (2 * h + 15) c.2.2 := by
  by_cases y0 : y = 0
  · have : told n (some (x, y)) = none := if_pos y0
    rw [this] at k
    cases k
  · obtain ⟨b1, b2, b3⟩ := side_RB hn o y0 hB
    have e : told n (some (x, y)) = _ := if_neg y0
    rw [e] at k
    split at k
    · obtain rfl := Option.some.inj k
      exact ⟨qa_RB b1, qa_RB b2, qa_RB b3⟩
    · obtain rfl := Option.some.inj k
      exact ⟨qa_RB b2, qa_RB b1, qa_RB b3⟩
/-- points of order two added -/
theorem tor_HB {n t : Int} {S : Pt} {h : Nat} (hn : B 7 n) (ht : t = 0 ∨ t = n ∨ t = -n) (o : On (en n) S) (hB : HB h S) : HB (h + 15) (sum (en n) S (some ((t : Rat), 0))) := by
  match S, o, hB with
  | none, _, _ =>
    have zt : Z 7 t := by
      unfold Z
      unfold B at hn
      rcases ht with rfl | rfl | rfl <;> omega
    exact (RB.int (m := 7) zt (by decide)).up (by omega)
  | some (x, y), o, hB =>
    show HB _ (if x = (t : Rat) ∧ -y = 0 then none else _)
    split
    · trivial
    rename_i hop
    replace o : y * y = (en n).f x := o
    have o2 : (0 : Rat) * 0 = (en n).f (t : Rat) := by
      rw [en_f]
      rcases ht with rfl | rfl | rfl <;> push_cast <;> grind
    have sl := slope_is o o2 hop
    rw [en_f] at o
    rcases sl with ⟨hx, hk⟩ | ⟨hx, hy, y0, _⟩
    case inr => exact absurd hy y0
    show RB (h + 15) (px (en n) (slo (en n) x y (t : Rat) 0) x (t : Rat))
    generalize slo (en n) x y (t : Rat) 0 = k at hk ⊢
    have epx : px (en n) k x (t : Rat) = k * k - x - (t : Rat) := by
      show k * k - ((0 : Int) : Rat) - x - (t : Rat) = _
      have : ((0 : Int) : Rat) = 0 := rfl
      rw [this]
      grind
    rw [epx]
    have ne : x - (t : Rat) ≠ 0 := by
      intro z
      exact hx (by grind)
    replace hB : RB h x := hB
    have ex := x_num x
    have dx := denR x
    have zA : Z h x.num := hB.1
    have zD : Z h (x.den : Int) := hB.2
    have zt : Z 7 t := by
      unfold Z
      unfold B at hn
      rcases ht with rfl | rfl | rfl <;> omega
    rcases ht with rfl | ht
    · have z0 : ((0 : Int) : Rat) = 0 := rfl
      rw [z0] at hk ne ⊢
      have x0 : x ≠ 0 := fun z => ne (by rw [z]; grind)
      have key : (k * k - x - 0) * x = -((n : Rat) * n) := by
        apply cancel x0
        have : (k * (0 - x)) * (k * (0 - x)) = (0 - y) * (0 - y) := by rw [hk]
        grind
      refine rb_of (d := x.num) (n := -(n * n) * (x.den : Int)) ?_ (num_ne x0) ?_ (zA.up (by omega))
      · rw [← ex, Rat.intCast_mul, Rat.intCast_neg, Rat.intCast_mul]
        generalize ((x.den : Int) : Rat) = d at *
        have l : (k * k - x - 0) * (x * d) = (k * k - x - 0) * x * d := by grind
        rw [l, key]
      · have zn : Z 7 n := hn
        have zm : Z 14 (-(n * n)) := B.neg (zn.mul zn : B 14 (n * n))
        exact (zm.mul zD).up (by omega)
    · have tt : (t : Rat) * t = (n : Rat) * n := by
        rcases ht with rfl | rfl
        · rfl
        · push_cast
          grind
      have key : (k * k - x - (t : Rat)) * (x - (t : Rat)) = (t : Rat) * (x + (t : Rat)) := by
        apply cancel ne
        have : (k * ((t : Rat) - x)) * (k * ((t : Rat) - x)) = (0 - y) * (0 - y) := by rw [hk]
        generalize (t : Rat) = t at *
        generalize (n : Rat) = n at *
        grind
      have nd : x.num - t * (x.den : Int) ≠ 0 := by
        intro z
        apply ne
        have z2 : ((x.num - t * (x.den : Int) : Int) : Rat) = 0 := by rw [z]; rfl
        rw [Rat.intCast_sub, Rat.intCast_mul, ← ex] at z2
        have z3 : (x - (t : Rat)) * ((x.den : Int) : Rat) = 0 := by grind
        rcases Rat.mul_eq_zero.mp z3 with z4 | z4
        · exact z4
        · exact absurd z4 dx
      refine rb_of (d := x.num - t * (x.den : Int)) (n := t * (x.num + t * (x.den : Int))) ?_ nd ?_ ?_
      · rw [Rat.intCast_sub, Rat.intCast_mul, Rat.intCast_mul, Rat.intCast_add, Rat.intCast_mul, ← ex]
        generalize ((x.den : Int) : Rat) = d at *
        have l : (k * k - x - (t : Rat)) * (x * d - (t : Rat) * d) = (k * k - x - (t : Rat)) * (x - (t : Rat)) * d := by grind
        rw [l, key]
        grind
      · exact (zt.mul ((zA.up (n := h + 7) (by omega)).add ((zt.mul zD).up (by omega)) (n := h + 8) (by omega))).up (by omega)
      · exact (zA.up (n := h + 7) (by omega)).sub ((zt.mul zD).up (by omega)) (by omega)
end K55
set_option Elab.async false
set_option linter.all false
set_option maxRecDepth 100000
set_option maxHeartbeats 4000000
namespace K55
open PySem PySem.Spec PyProof.Rows L2 Gd QM EcM EcP
section
variable {P : Program} {w : World} {K : PySem.W.Frag} {mg : Str → Option Value} {base : Heap}
def sp_concord_curve (K : PySem.W.Frag) : Sp := fun vs H Q _ => ∃ m n : Int, vs = [.int m, .int n] ∧ B 100 m ∧ B 100 n ∧ ∀ t, H t = none → Q (.ref t) (upd H t (.tup [.int (m + n), .int (m * n), .int 0]))
abbrev s_concord_curve : Stmt := topS 27
theorem sc_concord_curve : FnScope ["m", "n"] ["m", "n"] (defScope s_concord_curve) := ⟨rfl, rfl, rfl, by decide +kernel, rfl, by decide +kernel, by decide +kernel⟩
theorem k_concord_curve (T : Tx K mg) (D : Df K mg "concord_curve" s_concord_curve ["m", "n"])  : Kl P w K mg base 1 "concord_curve" (sp_concord_curve K) := by
  have nd := sc_concord_curve.nd
  refine Kl.by_body D sc_concord_curve (fun vs H Q E h => ?_) (fun f cdv A outer s H vs Q E hr h => ?_)
  · obtain ⟨_, _, rfl, _⟩ := h
    rfl
  · obtain ⟨m, n, rfl, hm, hn, q⟩ := h
    have hu1 := hu_of hr
    refine ⟨_, (pss_one (ps_ret (pe_tup (pa_cons (pe_op op_add (pv 0) (pv 1)) (pa_cons (pe_op op_mulW (pv 0) (pv 1)) (pa_cons pe_int pa_nil)))))), ?_⟩
    exact ⟨_, rfl, _, rfl, _, _, rfl, rfl, _, rfl, _, rfl, _, _, rfl, rfl, hm.mulW hn (by decide), (by show 3 ≤ sizeLine; decide), fun t nt => q t nt⟩
def sp_concord_of (K : PySem.W.Frag) : Sp := fun vs H Q _ => ∃ (m n : Int) (p : Addr) (S : Pt), vs = [.int m, .int n, .ref p] ∧ B 20 m ∧ B 20 n ∧ PtT K H p S ∧ HB 3800 S ∧ ∀ o v H', Con m n S o → Same H H' → TrO K H' v o → Q v H'
abbrev s_concord_of : Stmt := topS 28
theorem sc_concord_of : FnScope ["m", "n", "point", "roots", "k"] ["m", "n", "point"] (defScope s_concord_of) := ⟨rfl, rfl, rfl, by decide +kernel, rfl, by decide +kernel, by decide +kernel⟩
theorem k_concord_of (T : Tx K mg) (D : Df K mg "concord_of" s_concord_of ["m", "n", "point"]) (c_root_of_fraction : Kl P w K mg base 4 "root_of_fraction" (sp_root_of_fraction K)) (c_plus : Kl P w K mg base 2 "plus" (sp_plus K)) : Kl P w K mg base 5 "concord_of" (sp_concord_of K) := by
  have nd := sc_concord_of.nd
  refine Kl.by_body D sc_concord_of (fun vs H Q E h => ?_) (fun f cdv A outer s H vs Q E hr h => ?_)
  · obtain ⟨_, _, _, _, rfl, _⟩ := h
    rfl
  · obtain ⟨m, n, p, S, rfl, hm, hn, hp, hB, q⟩ := h
    have hu1 := hu_of hr
    refine ⟨_, (pss_cons (ps_if (PW.pt (pw_or (pt_cmpR (op_eqD hr.units) (pv 2) (pe_tup pa_nil) (nomark _)) (pw_or1 (pt_cmpR (op_eqD hr.units) (pe_ix ix_tup (pv 2) pe_int (fun _ _ => rfl)) (pe_tup (pa_cons pe_int (pa_cons pe_int pa_nil))) (nomark _))))) (pss_one (ps_ret pe_non)) pss_nil)
      (pss_cons (ps_setLc (i := 3) (own := [("k", 4)]) (g := gName 4) rfl nd rfl rfl (sw_true rfl rfl rfl (by decide +kernel)) (pi_tup (pe_tup (pa_cons pe_int (pa_cons (pv 0) (pa_cons (pv 1) pa_nil))))) (blkOk_by (N := ["m", "n", "point", "roots", "k"]) (sc := defScope s_concord_of) (by decide +kernel)) (fun _ _ _ _ _ => (pg_name (i := 4) nd rfl (by first | exact Or.inl rfl | exact Or.inr rfl))) (fun _ _ _ _ _ => pts_nil) (fun _ _ _ _ _ => (pe_k c_root_of_fraction  hr (by decide) (by rfl) (pa_cons (pe_k c_plus  hr (by decide) (by rfl) (pa_cons (pe_ix (ix_tupK (K := K) rfl) (pv 2) pe_int (fun _ _ => rfl)) (pa_cons (pe_tup (pa_cons (pv 4) (pa_cons pe_int pa_nil))) pa_nil))) (pa_cons pe_int pa_nil)))))
      (pss_one (ps_ret (pe_ifExp (pt_cmpR (op_noneInT hr.units) pe_non (pv 3) rfl) pe_non (pe_callTy call_tuple_of (by rfl) T.tuple (by decide +kernel) (pa_cons (pv 3) pa_nil))))))), ?_⟩
    refine ⟨_, rfl, (by show 0 ≤ sizeLine; decide), fun e ne => ?_⟩
    have s1 := Same.new (H := H) (p := e) (o := .tup []) ne
    have ge : upd H e (.tup []) e = some (.tup []) := upd_same
    generalize upd H e (.tup []) = H1 at s1 ge ⊢
    cases S with
    | none =>
      refine ⟨dP none, .tuple [], dp_pt (hp.same s1), dp0 (tup_of ge), sh_P none, rfl, _, rfl, iteT ?_⟩
      exact q none _ _ rfl s1 rfl
    | some S =>
      obtain ⟨x, y⟩ := S
      obtain ⟨a, b, h1, h2, h3⟩ := hp
      refine ⟨dP (some (x, y)), .tuple [], dp_pt ⟨a, b, Same.tup s1 h1, Same.tup s1 h2, Same.tup s1 h3⟩, dp0 (tup_of ge), sh_P (some (x, y)), rfl, _, rfl, iteF ?_⟩
      refine ⟨_, rfl, p, _, 0, .ref a, rfl, rfl, Same.tup s1 h1, rfl, (by show 2 ≤ sizeLine; decide), fun z nz => ?_⟩
      have s2 := Same.new (H := H1) (p := z) (o := .tup [.int 0, .int 1]) nz
      have gz : upd H1 z (.tup [.int 0, .int 1]) z = some (.tup [.int 0, .int 1]) := upd_same
      generalize upd H1 z (.tup [.int 0, .int 1]) = H2 at s2 gz ⊢
      have s02 := s1.trans s2
      refine ⟨dq x, dq 0, dp_q (Same.tup s02 h2), dp_q (q := 0) (tup_of gz), rfl, rfl, _, rfl, ?_⟩
      rw [eqv_q]
      have h1' := Same.tup s02 h1
      have h2' := Same.tup s02 h2
      by_cases x0 : x = 0
      · refine iteY (decide_eq_true x0) ?_
        exact q none _ _ (.inl ⟨x0, rfl⟩) s02 rfl
      refine iteN (by simpa using x0) ?_
      replace hB : RB 3800 x := hB
      refine ⟨_, rfl, _, rfl, (by show 3 ≤ sizeLine; decide), fun tz ntz => ?_⟩
      have s3 := Same.new (H := H2) (p := tz) (o := .tup [.int 0, .int m, .int n]) ntz
      have gtz : upd H2 tz (.tup [.int 0, .int m, .int n]) tz = some (.tup [.int 0, .int m, .int n]) := upd_same
      generalize upd H2 tz (.tup [.int 0, .int m, .int n]) = H3 at s3 gtz ⊢
      have s03 := s02.trans s3
      refine ⟨tz, rfl, ⟨_, tup_of gtz⟩, fun D hD => ?_⟩
      refine lc_tup (K := K) (a := tz) (xs := [.int 0, .int m, .int n]) (fun i H4 => Same H3 H4 ∧ RtD H4 D x [0, m, n] i) ⟨Same.new hD, RtD.new⟩ (fun i H4 _ z => tup_of (z.1 _ _ gtz)) (fun i v H4 hi z => ?_) (fun H4 z => ?_)
      · obtain ⟨s4, hd⟩ := z
        obtain ⟨k, hk, rfl⟩ : ∃ k : Int, [0, m, n][i]? = some k ∧ v = .int k := by
          rcases (show i = 0 ∨ i = 1 ∨ i = 2 ∨ 3 ≤ i by omega) with rfl | rfl | rfl | z
          · exact ⟨0, rfl, (Option.some.inj hi).symm⟩
          · exact ⟨m, rfl, (Option.some.inj hi).symm⟩
          · exact ⟨n, rfl, (Option.some.inj hi).symm⟩
          · rw [List.getElem?_eq_none (by simpa using z)] at hi
            cases hi
        have hkB : B 20 k := by
          have := List.mem_of_getElem? hk
          simp only [List.mem_cons, List.not_mem_nil, or_false] at this
          rcases this with rfl | rfl | rfl
          · exact B.lit (by decide)
          · exact hm
          · exact hn
        have hi3 : i < 3 := by
          have := (List.getElem?_eq_some_iff.mp hk).1
          simpa using this
        have s04 := s03.trans s4
        refine ⟨rfl, _, rfl, p, _, 0, .ref a, rfl, rfl, Same.tup s04 h1, rfl, _, rfl, (by show 2 ≤ sizeLine; decide), fun c nc => ?_⟩
        have s5 := Same.new (H := H4) (p := c) (o := .tup [.int k, .int 1]) nc
        have gc : upd H4 c (.tup [.int k, .int 1]) c = some (.tup [.int k, .int 1]) := upd_same
        generalize upd H4 c (.tup [.int k, .int 1]) = H5 at s5 gc ⊢
        have hkR : RB 20 ((k : Int) : Rat) := RB.int hkB (by decide)
        refine ⟨a, c, x, (k : Rat), _, _, rfl, Same.tup (s04.trans s5) h2, tup_of (by rw [fq_int]; exact gc), hB, hkR, (by decide), trivial, fun t nt => ?_⟩
        have s6 := Same.new (H := H5) (p := t) (o := .tup (fq (x + (k : Rat)))) nt
        have gt : upd H5 t (.tup (fq (x + (k : Rat)))) t = some (.tup (fq (x + (k : Rat)))) := upd_same
        generalize upd H5 t (.tup (fq (x + (k : Rat)))) = H6 at s6 gt ⊢
        refine ⟨t, x + (k : Rat), rfl, tup_of gt, (RB.add hB hkR).up (by decide), fun hN => ?_, fun r t2 hr rb nt2 => ?_⟩
        · obtain ⟨acc, g1, g2, g3⟩ := hd.push (v := .non) (o := none) (s5.trans s6) hk hN rfl (by omega)
          exact ⟨acc, g1, g2, Same.put (s4.trans (s5.trans s6)) hD, g3⟩
        · skip
          have s7 := Same.new (H := H6) (p := t2) (o := .tup (fq r)) nt2
          have gt2 : upd H6 t2 (.tup (fq r)) t2 = some (.tup (fq r)) := upd_same
          generalize upd H6 t2 (.tup (fq r)) = H7 at s7 gt2 ⊢
          obtain ⟨acc, g1, g2, g3⟩ := hd.push (v := .ref t2) (o := some r) (s5.trans (s6.trans s7)) hk hr ⟨t2, rfl, gt2⟩ (by omega)
          exact ⟨acc, g1, g2, Same.put (s4.trans (s5.trans (s6.trans s7))) hD, g3⟩
      · obtain ⟨s4, hd⟩ := z
        obtain ⟨u, v, w, o0, o1, o2, gD, q0, q1, q2, t0, t1, t2⟩ := hd.three
        rw [show x + ((0 : Int) : Rat) = x by grind] at q0
        have hcon : ∀ o, o = comb o0 o1 o2 → Con m n (some (x, y)) o := fun o e => .inr ⟨x0, o0, o1, o2, q0, q1, q2, e⟩
        have s04 := s03.trans s4
        refine ⟨_, rfl, D, [u, v, w], rfl, rfl, lst_of gD, fun z hz => ?_, _, rfl, ?_⟩
        · simp only [List.mem_cons, List.not_mem_nil, or_false] at hz
          rcases hz with rfl | rfl | rfl
          · exact t0.nt
          · exact t1.nt
          · exact t2.nt
        have ea : [u, v, w].any isNon = (o0.isNone || (o1.isNone || o2.isNone)) := by
          simp only [List.any_cons, List.any_nil, Bool.or_false]
          rw [t0.isn, t1.isn, t2.isn]
        rw [ea]
        match o0, o1, o2, t0, t1, t2, hcon with
        | none, _, _, _, _, _, hcon =>
          refine iteY rfl ?_
          exact q none _ _ (hcon _ rfl) s04 rfl
        | some r0, none, _, _, _, _, hcon =>
          refine iteY rfl ?_
          exact q none _ _ (hcon _ rfl) s04 rfl
        | some r0, some r1, none, _, _, _, hcon =>
          refine iteY rfl ?_
          exact q none _ _ (hcon _ rfl) s04 rfl
        | some r0, some r1, some r2, t0, t1, t2, hcon =>
          refine iteN Bool.false_ne_true ?_
          obtain ⟨a0, rfl, g0⟩ := t0
          obtain ⟨a1, rfl, g1⟩ := t1
          obtain ⟨a2, rfl, g2⟩ := t2
          refine ⟨_, rfl, D, _, rfl, .inl ⟨lst_of gD, fun t nt => ?_⟩⟩
          have st := Same.new (H := H4) (p := t) (o := .tup [.ref a0, .ref a1, .ref a2]) nt
          exact q (some (r0, r1, r2)) _ _ (hcon _ rfl) (s04.trans st) ⟨t, rfl, a0, a1, a2, tup_of upd_same, tup_of (st _ _ g0), tup_of (st _ _ g1), tup_of (st _ _ g2)⟩
def sp_concord_point (K : PySem.W.Frag) : Sp := fun vs H Q _ => ∃ (m n : Int) (p : Addr) (c : C3), vs = [.int m, .int n, .ref p] ∧ TrT K H p c ∧ RB 900 c.1 ∧ RB 900 c.2.1 ∧ RB 900 c.2.2 ∧ ∀ t H', Same H H' → PtT K H' t (some (c.1 * c.1, c.1 * (c.2.1 * c.2.2))) → Q (.ref t) H'
abbrev s_concord_point : Stmt := topS 29
theorem sc_concord_point : FnScope ["m", "n", "concord", "t", "u", "v"] ["m", "n", "concord"] (defScope s_concord_point) := ⟨rfl, rfl, rfl, by decide +kernel, rfl, by decide +kernel, by decide +kernel⟩
theorem k_concord_point (T : Tx K mg) (D : Df K mg "concord_point" s_concord_point ["m", "n", "concord"]) (c_times : Kl P w K mg base 2 "times" (sp_times K)) (c_product : Kl P w K mg base 3 "product" (sp_product K)) : Kl P w K mg base 4 "concord_point" (sp_concord_point K) := by
  have nd := sc_concord_point.nd
  refine Kl.by_body D sc_concord_point (fun vs H Q E h => ?_) (fun f cdv A outer s H vs Q E hr h => ?_)
  · obtain ⟨_, _, _, _, rfl, _⟩ := h
    rfl
  · obtain ⟨m, n, p, ⟨c1, c2, c3⟩, rfl, ⟨a, b, d, h0, h1, h2, h3⟩, b1, b2, b3, q⟩ := h
    have hu1 := hu_of hr
    refine ⟨_, (pss_cons (ps_asg (pv 2) (pg_tup rfl (pgs_cons (pg_name (i := 3) nd rfl (by first | exact Or.inl rfl | exact Or.inr rfl)) (pgs_cons (pg_name (i := 4) nd rfl (by first | exact Or.inl rfl | exact Or.inr rfl)) (pgs_cons (pg_name (i := 5) nd rfl (by first | exact Or.inl rfl | exact Or.inr rfl)) pgs_nil)))))
      (pss_one (ps_ret (pe_tup (pa_cons (pe_k c_times  hr (by decide) (by rfl) (pa_cons (pv 3) (pa_cons (pv 3) pa_nil))) (pa_cons (pe_k c_product  hr (by decide) (by rfl) (pa_cons (pe_lst (pa_cons (pv 3) (pa_cons (pv 4) (pa_cons (pv 5) pa_nil)))) pa_nil)) pa_nil)))))), ?_⟩
    replace h1 : SqT K H a (fq c1) := h1
    replace h2 : SqT K H b (fq c2) := h2
    replace h3 : SqT K H d (fq c3) := h3
    replace b1 : RB 900 c1 := b1
    replace b2 : RB 900 c2 := b2
    replace b3 : RB 900 c3 := b3
    refine ⟨_, rfl, p, _, rfl, h0, rfl, _, _, rfl, _, _, rfl, _, _, rfl, rfl, ?_⟩
    refine ⟨_, rfl, _, rfl, a, a, c1, c1, _, _, rfl, h1, h1, b1, b1, (by decide), trivial, fun t nt => ?_⟩
    have s1 := Same.new (H := H) (p := t) (o := .tup (fq (c1 * c1))) nt
    have gt : upd H t (.tup (fq (c1 * c1))) t = some (.tup (fq (c1 * c1))) := upd_same
    generalize upd H t (.tup (fq (c1 * c1))) = H1 at s1 gt ⊢
    refine ⟨_, rfl, _, rfl, _, rfl, (by show 3 ≤ sizeLine; decide), fun l nl => ?_⟩
    have s2 := Same.new (H := H1) (p := l) (o := .lst [.ref a, .ref b, .ref d]) nl
    have gl : upd H1 l (.lst [.ref a, .ref b, .ref d]) l = some (.lst [.ref a, .ref b, .ref d]) := upd_same
    generalize upd H1 l (.lst [.ref a, .ref b, .ref d]) = H2 at s2 gl ⊢
    have s02 := s1.trans s2
    refine ⟨l, [(a, c1, 900), (b, c2, 900), (d, c3, 900)], rfl, lst_of gl, FrE.add (FrE.add (FrE.add FrE.nil (Same.tup s02 h3) b3) (Same.tup s02 h2) b2) (Same.tup s02 h1) b1, (by simp only [List.map_cons, List.map_nil, List.sum_cons, List.sum_nil]; omega), fun H3 r s3 nr gr => ?_⟩
    have e : List.foldl (fun x (p : Addr × Rat × Nat) => x * p.2.1) 1 [(a, c1, 900), (b, c2, 900), (d, c3, 900)] = c1 * (c2 * c3) := by
      show 1 * c1 * c2 * c3 = _
      grind
    rw [e] at gr
    refine ⟨(by show 2 ≤ sizeLine; decide), fun z nz => ?_⟩
    have sz := Same.new (H := H3) (p := z) (o := .tup [.ref t, .ref r]) nz
    exact q z _ (s02.trans (s3.trans sz)) ⟨t, r, tup_of upd_same, tup_of ((s2.trans (s3.trans sz)) _ _ gt), tup_of (sz _ _ gr)⟩
end
end K55
set_option Elab.async false
set_option linter.all false
set_option maxRecDepth 100000
set_option maxHeartbeats 4000000
namespace K55
open PySem PySem.Spec PyProof.Rows L2 Gd QM EcM EcP
local macro_rules | `(tactic| walk_at "bd") => `(tactic| (repeat (first | assumption | apply B.add | apply B.sub | apply B.mul | apply B.neg | exact B.lit (n := 8) (by decide))))
local macro_rules | `(tactic| walk_at "bu") => `(tactic| (apply B.up; walk_at "bd"; decide))
local macro_rules | `(tactic| walk_at "bnd") => `(tactic| (apply B.mulW; walk_at "bd"; decide))
section
variable {P : Program} {w : World} {K : PySem.W.Frag} {mg : Str → Option Value} {base : Heap}
/-! ### the root of a fraction -/
theorem sqr_of {n r : Int} (h1 : r * r ≤ n) (h2 : n < (r + 1) * (r + 1)) (h0 : 0 ≤ r) (h : r * r ≠ n) : SqR n none := fun s e => h (sq_max h0 h1 (fun s hs h3 => by
  rcases Int.lt_or_le r s with z | z
  · have := Int.mul_le_mul (show r + 1 ≤ s by omega) (show r + 1 ≤ s by omega) (by omega) hs
    omega
  · exact z) e)
def sp_law_root_of (K : PySem.W.Frag) : Sp := fun vs H Q _ => ∃ (f : Addr) (a : Rat), vs = [.ref f] ∧ SqT K H f (fq a) ∧ RB 3900 a ∧ ∀ o v H', SqQ a o → Same H H' → RtO H' v o → Q v H'
abbrev s__law_root_of : Stmt := topS 58
theorem sc__law_root_of : FnScope ["f", "n", "d"] ["f"] (defScope s__law_root_of) := ⟨rfl, rfl, rfl, by decide +kernel, rfl, by decide +kernel, by decide +kernel⟩
theorem k_law_root_of (T : Tx K mg) (D : Df K mg "_law_root_of" s__law_root_of ["f"]) (c_law_root : Kl P w K mg base 1 "_law_root" (sp_law_root K)) : Kl P w K mg base 2 "_law_root_of" (sp_law_root_of K) := by
  have nd := sc__law_root_of.nd
  refine Kl.by_body D sc__law_root_of (fun vs H Q E h => ?_) (fun f cdv A outer s H vs Q E hr h => ?_)
  · obtain ⟨_, _, rfl, _⟩ := h
    rfl
  · obtain ⟨f, a, rfl, hf, hB, q⟩ := h
    have hu1 := hu_of hr
    refine ⟨_, (pss_cons (ps_if (pt_cmpR op_lt (pe_ix ix_tup (pv 0) pe_int (fun _ _ => rfl)) pe_int (nomark _)) (pss_one (ps_ret pe_non)) pss_nil)
      (pss_cons (ps_par (i := 1) (j := 2) (by rfl) nd rfl rfl (by decide) rfl rfl (pa_cons (pe_k c_law_root  hr (by decide) (by rfl) (pa_cons (pe_ix ix_tup (pv 0) pe_int (fun _ _ => rfl)) pa_nil)) (pa_cons (pe_k c_law_root  hr (by decide) (by rfl) (pa_cons (pe_ix ix_tup (pv 0) pe_int (fun _ _ => rfl)) pa_nil)) pa_nil)) (by rfl))
      (pss_one (ps_ret (pe_ifExp (PW.pt (pw_and (pt_cmpR op_eq (pe_op op_mulW (pv 1) (pv 1)) (pe_ix ix_tup (pv 0) pe_int (fun _ _ => rfl)) (nomark _)) (pw_and1 (pt_cmpR op_eq (pe_op op_mulW (pv 2) (pv 2)) (pe_ix ix_tup (pv 0) pe_int (fun _ _ => rfl)) (nomark _))))) (pe_tup (pa_cons (pv 1) (pa_cons (pv 2) pa_nil))) pe_non))))), ?_⟩
    refine ⟨_, rfl, f, _, 0, .int a.num, rfl, rfl, hf, rfl, _, _, rfl, rfl, _, rfl, ?_⟩
    by_cases hneg : a.num < 0
    · refine iteY (by simpa using hneg) ?_
      exact q none _ _ (SqQ.none1 (fun r e => by have := sq0 r; omega)) (Same.refl _) rfl
    refine iteN (by simpa using hneg) ?_
    refine ⟨_, rfl, f, _, 0, .int a.num, rfl, rfl, hf, rfl, a.num, rfl, by omega, hB.n, fun H1 n s1 n0 n1 n2 => ?_⟩
    refine ⟨_, rfl, f, _, 1, .int (a.den : Int), rfl, rfl, Same.tup s1 hf, rfl, (a.den : Int), rfl, by omega, hB.d, fun H2 d s2 d0 d1 d2 => ?_⟩
    have s02 := s1.trans s2
    have hf2 := Same.tup s02 hf
    refine ⟨_, _, rfl, ?_⟩
    have nB : B 3900 n := by
      have h1 := hB.n
      have := sq_le_self n0 n1
      unfold B at *
      omega
    have dB : B 3900 d := by
      have h1 := hB.d
      have := sq_le_self d0 d1
      unfold B at *
      omega
    first | refine sigN [some (.ref f), some (.int (n)), some (.int (d))] (by rfl) ?_ | refine sig [some (.ref f), some (.int (n)), some (.int (d))] (by rfl) ?_
    refine ⟨_, rfl, _, rfl, _, _, rfl, rfl, nB.mulW nB (by decide), _, rfl, f, _, 0, .int a.num, rfl, rfl, hf2, rfl, rfl, _, rfl, ?_⟩
    rw [dec_int]
    by_cases hn : n * n = a.num
    · refine iteY (by simpa using hn) ?_
      refine ⟨_, rfl, _, rfl, _, _, rfl, rfl, dB.mulW dB (by decide), _, rfl, f, _, 1, .int (a.den : Int), rfl, rfl, hf2, rfl, rfl, _, rfl, ?_⟩
      rw [dec_int]
      by_cases hd : d * d = (a.den : Int)
      · refine iteY (by simpa using hd) ?_
        refine ⟨_, rfl, _, rfl, (by show 2 ≤ sizeLine; decide), fun t nt => ?_⟩
        obtain ⟨r, hr1, rfl, rfl⟩ := SqQ.of ⟨n0, hn⟩ ⟨d0, hd⟩
        exact q (some r) _ _ hr1 (s02.trans (Same.new nt)) ⟨t, rfl, upd_same⟩
      · refine iteN (by simpa using hd) ?_
        exact q none _ _ (SqQ.none2 (sqr_of d1 d2 d0 hd)) s02 rfl
    · refine iteN (by simpa using hn) ?_
      exact q none _ _ (SqQ.none1 (sqr_of n1 n2 n0 hn)) s02 rfl
/-! ### the concord of a point -/
end
end K55
set_option Elab.async false
set_option linter.all false
set_option maxRecDepth 100000
set_option maxHeartbeats 4000000
namespace K55
open PySem PySem.Spec PyProof.Rows L2 Gd QM EcM EcP
local macro_rules | `(tactic| walk_at "mm") => `(tactic| (repeat (first | exact List.mem_cons_self | apply List.mem_cons_of_mem)))
section
variable {P : Program} {w : World} {K : PySem.W.Frag} {mg : Str → Option Value} {base : Heap}
/-! ### the class of a number by squares -/
def sp_law_class (K : PySem.W.Frag) : Sp := fun vs H Q _ => ∃ n : Int, vs = [.int n] ∧ 0 < n ∧ B 40 n ∧ ∀ c s, 0 < c → 0 < s → n = c * (s * s) → Q (.int c) H
theorem le_mul {c s : Int} (h0 : 0 < c) (s0 : 0 < s) : c ≤ c * (s * s) := by
  have h1 : 1 ≤ s * s := by
    have := Int.mul_le_mul (show 1 ≤ s by omega) (show 1 ≤ s by omega) (by decide) (by omega)
    omega
  have := Int.mul_le_mul_of_nonneg_left h1 (Int.le_of_lt h0)
  omega
theorem le_sq {p : Int} (h : 2 ≤ p) : p + 1 ≤ p * p := by
  have := Int.mul_le_mul_of_nonneg_right h (show 0 ≤ p by omega)
  omega
abbrev s__law_class : Stmt := topS 40
theorem sc__law_class : FnScope ["n", "p"] ["n"] (defScope s__law_class) := ⟨rfl, rfl, rfl, by decide +kernel, rfl, by decide +kernel, by decide +kernel⟩
theorem k_law_class (T : Tx K mg) (D : Df K mg "_law_class" s__law_class ["n"])  : Kl P w K mg base 1 "_law_class" (sp_law_class K) := by
  have nd := sc__law_class.nd
  refine Kl.by_body D sc__law_class (fun vs H Q E h => ?_) (fun f cdv A outer s H vs Q E hr h => ?_)
  · obtain ⟨_, rfl, _⟩ := h
    rfl
  · obtain ⟨n, rfl, n0, hB, q⟩ := h
    have hu1 := hu_of hr
    refine ⟨_, (pss_cons (ps_set (i := 1) nd rfl (by first | exact Or.inl rfl | exact Or.inr rfl) pe_int)
      (pss_cons (ps_while PassesOwn.never (pt_cmpR op_le (pe_op op_mulW (pv 1) (pv 1)) (pe_callB call_abs (by rfl) T.abs (by decide +kernel) (pa_cons (pv 0) pa_nil)) (nomark _)) (pss_cons (ps_while PassesOwn.never (pt_cmpR op_eq (pe_op op_mod (pe_callTy call_intI (by rfl) T.int (by decide +kernel) (pa_cons (pv 0) pa_nil)) (pe_op op_mulW (pv 1) (pv 1))) pe_int (nomark _)) (pss_one (ps_set (i := 0) nd rfl (by first | exact Or.inl rfl | exact Or.inr rfl) (pe_op op_fdivAny (pv 0) (pe_op op_mulW (pv 1) (pv 1))))))
      (pss_one (ps_set (i := 1) nd rfl (by first | exact Or.inl rfl | exact Or.inr rfl) (pe_op op_add (pv 1) pe_int)))))
      (pss_one (ps_ret (pv 0))))), ?_⟩
    refine while_by (fun σ H2 => H2 = H ∧ ∃ c p s : Int, σ = [some (.int c), some (.int p)] ∧ 0 < c ∧ 2 ≤ p ∧ p ≤ n + 1 ∧ 0 < s ∧ n = c * (s * s))
      (fun σ _ => match σ with | [_, some (.int p)] => (n + 1 - p).toNat | _ => 0) ⟨rfl, n, 2, 1, rfl, n0, by decide, by omega, by decide, by omega⟩ ?_ ?_
    · rintro σ H2 ⟨rfl, c, p, s, rfl, c0, p2, pn, s0, e⟩
      have cn : c ≤ n := by
        have := le_mul c0 s0
        omega
      have cB : B 41 c := by
        unfold B at *
        omega
      have pB : B 41 p := by
        unfold B at *
        omega
      refine ⟨_, rfl, _, rfl, _, _, rfl, rfl, pB.mulW pB (by decide), _, rfl, c, rfl, _, _, rfl, rfl, _, rfl, ?_⟩
      rw [abs_eq]
      by_cases hp : p * p ≤ (c.natAbs : Int)
      · refine iteY (decide_eq_true hp) ?_
        have hpp := le_sq p2
        refine while_by (fun σ H3 => H3 = H2 ∧ ∃ c s : Int, σ = [some (.int c), some (.int p)] ∧ 0 < c ∧ 0 < s ∧ n = c * (s * s))
          (fun σ _ => match σ with | [some (.int c), _] => c.toNat | _ => 0) ⟨rfl, c, s, rfl, c0, s0, e⟩ ?_ ?_
        · rintro σ H3 ⟨rfl, c, s, rfl, c0, s0, e⟩
          have cn : c ≤ n := by
            have := le_mul c0 s0
            omega
          have cB : B 41 c := by
            unfold B at *
            omega
          refine ⟨_, rfl, _, rfl, _, rfl, _, rfl, _, _, rfl, rfl, pB.mulW pB (by decide), _, _, rfl, rfl, by omega, rfl, _, rfl, ?_⟩
          rw [dec_int]
          by_cases hd : c % (p * p) = 0
          · refine iteY (by simpa using hd) ?_
            have pp0 : p * p ≠ 0 := by omega
            have dv : CDivAny c (p * p) := div_any (m := 82) pp0 (pB.mul pB) (by decide)
            refine ⟨_, rfl, _, rfl, _, rfl, _, _, rfl, rfl, pB.mulW pB (by decide), _, _, rfl, rfl, dv, ?_⟩
            have ec : c.fdiv (p * p) * (p * p) = c := by
              rw [Int.fdiv_eq_ediv_of_nonneg _ (by omega)]
              exact Int.ediv_mul_cancel (Int.dvd_of_emod_eq_zero hd)
            first | refine sigN [some (.int (c.fdiv (p * p))), some (.int (p))] (by rfl) ?_ | refine sig [some (.int (c.fdiv (p * p))), some (.int (p))] (by rfl) ?_
            generalize c.fdiv (p * p) = d at ec ⊢
            have d0 : 0 < d := by
              rcases Int.lt_or_le 0 d with z | z
              · exact z
              · have := Int.mul_le_mul_of_nonneg_right z (show 0 ≤ p * p by omega)
                omega
            have dc : d < c := by
              have := Int.mul_le_mul_of_nonneg_left (show 2 ≤ p * p by omega) (Int.le_of_lt d0)
              omega
            refine ⟨⟨rfl, d, s * p, rfl, d0, Int.mul_pos s0 (by omega), ?_⟩, ?_⟩
            · rw [e, ← ec]
              grind
            · show d.toNat < c.toNat
              omega
          · refine iteN (by simpa using hd) ?_
            refine ⟨_, rfl, _, _, rfl, rfl, ?_⟩
            refine ⟨⟨rfl, c, p + 1, s, rfl, c0, by omega, by omega, s0, e⟩, ?_⟩
            show (n + 1 - (p + 1)).toNat < (n + 1 - p).toNat
            omega
        · rintro σ H3 Q1 Q2 i ⟨v, hv, j, ej, v1, hv1, v2, hv2, x, y, e1, e2, c, x2, y2, e3, e4, pos, r, b, eb, z⟩
          exact ⟨v, hv, j, ej, v1, hv1, v2, hv2, x, y, e1, e2, c, x2, y2, e3, e4, pos, r, b, eb, i _ _ z⟩
      · refine iteN (by simpa using hp) ?_
        exact ⟨_, rfl, q c s c0 s0 e⟩
    · rintro σ H3 Q1 Q2 i ⟨v1, hv1, v2, hv2, x, y, e1, e2, c, v, hv, j, ej, x2, y2, e3, e4, b, eb, z⟩
      exact ⟨v1, hv1, v2, hv2, x, y, e1, e2, c, v, hv, j, ej, x2, y2, e3, e4, b, eb, i _ _ z⟩
/-! ### a list of fractions that is being made -/
def FqD (H : Hp) (D : Addr) (qs : List Rat) (i : Nat) : Prop := ∃ L : List Addr, H D = some (.lst (L.map V.ref)) ∧ L.length = i ∧ ∀ (j : Nat) (p : Addr), L[j]? = some p → ∃ q : Rat, qs[j]? = some q ∧ H p = some (.tup (fq q))
theorem FqD.new {H : Hp} {D : Addr} {qs : List Rat} : FqD (upd H D (.lst [])) D qs 0 := ⟨[], upd_same, rfl, fun j p h => by simp at h⟩
theorem FqD.push {H H' : Hp} {D t : Addr} {qs : List Rat} {i : Nat} {q : Rat} (h : FqD H D qs i) (s : Same H H') (hi : qs[i]? = some q) (ht : H' t = some (.tup (fq q))) (hl : i < 1000) :
    ∃ acc, H' D = some (.lst acc) ∧ acc.length < sizeLine ∧ FqD (upd H' D (.lst (acc ++ [.ref t]))) D qs (i + 1) := by
  obtain ⟨L, h1, h2, h3⟩ := h
  have h1' := s _ _ h1
  refine ⟨L.map V.ref, h1', by rw [List.length_map]; exact small1000 (by omega), L ++ [t], ?_, by rw [List.length_append, h2]; rfl, fun j p hj => ?_⟩
  · rw [upd_same, List.map_append]
    rfl
  · rcases Nat.lt_or_ge j L.length with z | z
    · rw [List.getElem?_append_left z] at hj
      obtain ⟨m, hm, hp⟩ := h3 j p hj
      have hp' := s _ _ hp
      refine ⟨m, hm, ?_⟩
      rw [upd_ne (ne_of hp' h1' (by intro z; cases z))]
      exact hp'
    · rw [List.getElem?_append_right z] at hj
      have e : j - L.length = 0 := by
        rcases Nat.eq_zero_or_pos (j - L.length) with q | q
        · exact q
        · rw [List.getElem?_eq_none (by simp; omega)] at hj
          cases hj
      rw [e] at hj
      obtain rfl := Option.some.inj hj
      have ej : j = i := by omega
      refine ⟨q, by rw [ej]; exact hi, ?_⟩
      rw [upd_ne (ne_of ht h1' (by intro z; cases z))]
      exact ht
theorem FqD.three {H : Hp} {D : Addr} {a b c : Rat} (h : FqD H D [a, b, c] 3) : ∃ p1 p2 p3, H D = some (.lst [.ref p1, .ref p2, .ref p3]) ∧ H p1 = some (.tup (fq a)) ∧ H p2 = some (.tup (fq b)) ∧ H p3 = some (.tup (fq c)) := by
  obtain ⟨L, h1, h2, h3⟩ := h
  match L, h2 with
  | [p1, p2, p3], _ =>
    have g : ∀ (j : Nat) (p : Addr) (n : Rat), [p1, p2, p3][j]? = some p → [a, b, c][j]? = some n → H p = some (.tup (fq n)) := fun j p n x y => by
      obtain ⟨m, hm, hp⟩ := h3 j p x
      rw [y] at hm
      obtain rfl := Option.some.inj hm
      exact hp
    exact ⟨p1, p2, p3, h1, g 0 _ _ rfl rfl, g 1 _ _ rfl rfl, g 2 _ _ rfl rfl⟩
/-! ### squares in steps -/
/-- half the sums, squared -/
def stp (c : C3) : C3 := ((c.1 - c.2.1) / 2 * ((c.1 - c.2.1) / 2), c.2.2 / 2 * (c.2.2 / 2), (c.1 + c.2.1) / 2 * ((c.1 + c.2.1) / 2))
end
end K55
set_option Elab.async false
set_option linter.all false
set_option maxRecDepth 100000
set_option maxHeartbeats 4000000
namespace K55
open PySem PySem.Spec PyProof.Rows L2 Gd QM EcM EcP
local macro_rules | `(tactic| walk_at "mm") => `(tactic| (repeat (first | exact List.mem_cons_self | apply List.mem_cons_of_mem)))
/-- the three numbers of a plain curve -/
def CurT (K : PySem.W.Frag) (H : Hp) (f : Addr) (e : Ec) : Prop := SqT K H f [.int e.a, .int e.b, .int e.c]
theorem CurT.same {K : PySem.W.Frag} {H H' : Hp} {f : Addr} {e : Ec} (h : CurT K H f e) (s : Same H H') : CurT K H' f e := Same.tup s h
theorem fq_m1 : [(fun i : Int => V.int (-i)) 1, V.int 1] = fq (-1) := rfl
theorem fq_neg (a : Int) : [(fun i : Int => V.int (-i)) a, V.int 1] = fq (-(a : Rat)) := by
  show [V.int (-a), V.int 1] = _
  rw [← Rat.intCast_neg, fq_int]
theorem fq_m0 : [(fun i : Int => V.int (-i)) 0, V.int 1] = fq 0 := rfl
theorem rb_m1 : RB 1 (-1 : Rat) := ⟨by decide, by decide⟩
theorem px_val (e : Ec) (k x u : Rat) : 0 + k * (k + 0) + -(e.a : Rat) + -1 * x + -1 * u = px e k x u := by
  unfold px
  grind
local macro_rules | `(tactic| walk_at "tv") => `(tactic| exact px_val _ _ _ _)
theorem slo_RB {e : Ec} {x y u v : Rat} {h j : Nat} (hg : e.Bd 15) (onS : y * y = e.f x) (onR : v * v = e.f u) (hS : RB h x) (hR : RB j u) (yB : RB (2 * h + 15) y) (vB : RB (2 * j + 15) v) (hop : ¬ (x = u ∧ -y = v)) : RB (5 * (h + j) + 60) (slo e x y u v) := by
  have bB : RB 15 ((e.b : Int) : Rat) := RB.int hg.b (by decide)
  have a2B : RB 17 ((2 * e.a : Int) : Rat) := RB.int (B.mul (m := 2) (n := 15) (B.lit (by decide)) hg.a) (by decide)
  by_cases hsame : x = u ∧ y = v
  · have n2 : 2 * y ≠ 0 := fun z => hop ⟨hsame.1, by rw [← hsame.2]; grind⟩
    obtain ⟨rfl, rfl⟩ := hsame
    rw [sl_dbl]
    exact (RB.div (show 2 * y ≠ 0 by grind) ((rb_three.mul (hS.mul hS)).add ((a2B.mul hS).add bB)) (rb_two.mul yB)).up (by omega)
  · rw [sl_two hsame]
    have nx : u - x ≠ 0 := by
      intro h0
      have hx : x = u := by grind
      subst hx
      rcases same_x onS onR with z | z
      · exact hsame ⟨rfl, z⟩
      · exact hop ⟨rfl, z⟩
    exact (RB.div nx (vB.sub yB) (hR.sub hS)).up (by omega)
section
variable {P : Program} {w : World} {K : PySem.W.Frag} {mg : Str → Option Value} {base : Heap}
def sp_five (K : PySem.W.Frag) : Sp := fun vs H Q _ => ∃ (f : Addr) (e : Ec), vs = [.ref f] ∧ CurT K H f e ∧ ∀ t, H t = none → Q (.ref t) (upd H t (.tup [.int 0, .int e.a, .int 0, .int e.b, .int e.c]))
abbrev s_five : Stmt := topS 16
theorem sc_five : FnScope ["curve", "a", "b", "c"] ["curve"] (defScope s_five) := ⟨rfl, rfl, rfl, by decide +kernel, rfl, by decide +kernel, by decide +kernel⟩
theorem k_five (T : Tx K mg) (D : Df K mg "five" s_five ["curve"])  : Kl P w K mg base 1 "five" (sp_five K) := by
  have nd := sc_five.nd
  refine Kl.by_body D sc_five (fun vs H Q E h => ?_) (fun f cdv A outer s H vs Q E hr h => ?_)
  · obtain ⟨_, _, rfl, _⟩ := h
    rfl
  · obtain ⟨f, e, rfl, hf, q⟩ := h
    have hu1 := hu_of hr
    refine ⟨_, (pss_cons (ps_if (pt_cmpR op_eq (pe_callB call_len_seq (by rfl) T.len (by decide +kernel) (pa_cons (pv 0) pa_nil)) pe_int (nomark _)) (pss_cons (ps_asg (pv 0) (pg_tup rfl (pgs_cons (pg_name (i := 1) nd rfl (by first | exact Or.inl rfl | exact Or.inr rfl)) (pgs_cons (pg_name (i := 2) nd rfl (by first | exact Or.inl rfl | exact Or.inr rfl)) (pgs_cons (pg_name (i := 3) nd rfl (by first | exact Or.inl rfl | exact Or.inr rfl)) pgs_nil)))))
      (pss_one (ps_ret (pe_tup (pa_cons pe_int (pa_cons (pv 1) (pa_cons pe_int (pa_cons (pv 2) (pa_cons (pv 3) pa_nil))))))))) pss_nil)
      (pss_one (ps_ret (pv 0)))), ?_⟩
    refine ⟨_, rfl, f, _, rfl, .inr hf, rfl, _, rfl, iteY (by rfl) ?_⟩
    refine ⟨_, rfl, f, _, rfl, hf, rfl, _, _, rfl, _, _, rfl, _, _, rfl, rfl, ?_⟩
    exact ⟨_, rfl, _, rfl, _, rfl, (by show 5 ≤ sizeLine; decide), fun t nt => q t nt⟩
def sp_opposite (K : PySem.W.Frag) : Sp := fun vs H Q _ => ∃ (f p : Addr) (e : Ec) (S : Pt), vs = [.ref f, .ref p] ∧ CurT K H f e ∧ PtT K H p S ∧ PB 3000 S ∧ ∀ t H', Same H H' → PtT K H' t (neg S) → Q (.ref t) H'
abbrev s_opposite : Stmt := topS 18
theorem sc_opposite : FnScope ["curve", "point", "a1", "_", "a3", "x", "y"] ["curve", "point"] (defScope s_opposite) := ⟨rfl, rfl, rfl, by decide +kernel, rfl, by decide +kernel, by decide +kernel⟩
theorem k_opposite (T : Tx K mg) (D : Df K mg "opposite" s_opposite ["curve", "point"]) (c_five : Kl P w K mg base 1 "five" (sp_five K)) (c_total : Kl P w K mg base 3 "total" (sp_total K)) (c_times : Kl P w K mg base 2 "times" (sp_times K)) : Kl P w K mg base 4 "opposite" (sp_opposite K) := by
  have nd := sc_opposite.nd
  refine Kl.by_body D sc_opposite (fun vs H Q E h => ?_) (fun f cdv A outer s H vs Q E hr h => ?_)
  · obtain ⟨_, _, _, _, rfl, _⟩ := h
    rfl
  · obtain ⟨f, p, e, S, rfl, hf, hp, hB, q⟩ := h
    have hu1 := hu_of hr
    refine ⟨_, (pss_cons (ps_if (pt_cmpR (op_eqD hr.units) (pv 1) (pe_tup pa_nil) (nomark _)) (pss_one (ps_ret (pe_tup pa_nil))) pss_nil)
      (pss_cons (ps_asg (pe_k c_five  hr (by decide) (by rfl) (pa_cons (pv 0) pa_nil)) (pg_tup rfl (pgs_cons (pg_name (i := 2) nd rfl (by first | exact Or.inl rfl | exact Or.inr rfl)) (pgs_cons (pg_name (i := 3) nd rfl (by first | exact Or.inl rfl | exact Or.inr rfl)) (pgs_cons (pg_name (i := 4) nd rfl (by first | exact Or.inl rfl | exact Or.inr rfl)) (pgs_cons (pg_name (i := 3) nd rfl (by first | exact Or.inl rfl | exact Or.inr rfl)) (pgs_cons (pg_name (i := 3) nd rfl (by first | exact Or.inl rfl | exact Or.inr rfl)) pgs_nil)))))))
      (pss_cons (ps_asg (pv 1) (pg_tup rfl (pgs_cons (pg_name (i := 5) nd rfl (by first | exact Or.inl rfl | exact Or.inr rfl)) (pgs_cons (pg_name (i := 6) nd rfl (by first | exact Or.inl rfl | exact Or.inr rfl)) pgs_nil))))
      (pss_one (ps_ret (pe_tup (pa_cons (pv 5) (pa_cons (pe_k c_total  hr (by decide) (by rfl) (pa_cons (pe_lst (pa_cons (pe_k c_times  hr (by decide) (by rfl) (pa_cons (pe_tup (pa_cons (pe_un un_neg pe_int) (pa_cons pe_int pa_nil))) (pa_cons (pv 6) pa_nil))) (pa_cons (pe_k c_times  hr (by decide) (by rfl) (pa_cons (pe_tup (pa_cons (pe_un un_neg (pv 2)) (pa_cons pe_int pa_nil))) (pa_cons (pv 5) pa_nil))) (pa_cons (pe_tup (pa_cons (pe_un un_neg (pv 4)) (pa_cons pe_int pa_nil))) pa_nil)))) pa_nil)) pa_nil)))))))), ?_⟩
    refine ⟨_, rfl, (by show 0 ≤ sizeLine; decide), fun z nz => ?_⟩
    have s1 := Same.new (H := H) (p := z) (o := .tup []) nz
    have gz : upd H z (.tup []) z = some (.tup []) := upd_same
    generalize upd H z (.tup []) = H1 at s1 gz ⊢
    match S, hp, hB, q with
    | none, hp, hB, q =>
      refine ⟨dP none, .tuple [], dp_pt (hp.same s1), dp0 (tup_of gz), sh_P none, rfl, _, rfl, iteT ?_⟩
      refine ⟨(by show 0 ≤ sizeLine; decide), fun t nt => ?_⟩
      exact q t _ (s1.trans (Same.new nt)) (tup_of upd_same)
    | some (x, y), ⟨a, b, h1, h2, h3⟩, ⟨bx, byy⟩, q =>
      refine ⟨dP (some (x, y)), .tuple [], dp_pt ⟨a, b, Same.tup s1 h1, Same.tup s1 h2, Same.tup s1 h3⟩, dp0 (tup_of gz), sh_P (some (x, y)), rfl, _, rfl, iteF ?_⟩
      refine ⟨_, rfl, f, e, rfl, hf.same s1, fun u nu => ?_⟩
      have s2 := Same.new (H := H1) (p := u) (o := .tup [.int 0, .int e.a, .int 0, .int e.b, .int e.c]) nu
      have gu : upd H1 u (.tup [.int 0, .int e.a, .int 0, .int e.b, .int e.c]) u = some (.tup [.int 0, .int e.a, .int 0, .int e.b, .int e.c]) := upd_same
      generalize upd H1 u (.tup [.int 0, .int e.a, .int 0, .int e.b, .int e.c]) = H2 at s2 gu ⊢
      have s02 := s1.trans s2
      refine ⟨u, _, rfl, tup_of gu, rfl, _, _, rfl, _, _, rfl, _, _, rfl, _, _, rfl, _, _, rfl, rfl, ?_⟩
      first | refine sigN [some (.ref f), some (.ref p), some (.int (0)), some (.int (e.c)), some (.int (0)), none, none] (by rfl) ?_ | refine sig [some (.ref f), some (.ref p), some (.int (0)), some (.int (e.c)), some (.int (0)), none, none] (by rfl) ?_
      refine ⟨_, rfl, p, _, rfl, Same.tup s02 h1, rfl, _, _, rfl, _, _, rfl, rfl, ?_⟩
      first | refine sigN [some (.ref f), some (.ref p), some (.int (0)), some (.int (e.c)), some (.int (0)), some (.ref a), some (.ref b)] (by rfl) ?_ | refine sig [some (.ref f), some (.ref p), some (.int (0)), some (.int (e.c)), some (.int (0)), some (.ref a), some (.ref b)] (by rfl) ?_
      have E0 : FrE K H2 [(a, x, 3000), (b, y, 3000)] := FrE.add (FrE.add FrE.nil (Same.tup s02 h3) byy) (Same.tup s02 h2) bx
      refine ⟨_, rfl, _, rfl, ?_⟩
      refine ⟨(by show 2 ≤ sizeLine; decide), fun m1 nm1 => ?_⟩
      obtain ⟨H3, eH_, s3, E1⟩ := litE E0 nm1 fq_m1 rb_m1
      rw [eH_]
      clear eH_
      refine ⟨_, rfl, ?_⟩
      refine ⟨m1, b, _, _, _, _, rfl, E1.get (by walk_at "mm"), E1.get (by walk_at "mm"), E1.rb (p := m1) (by walk_at "mm"), E1.rb (p := b) (by walk_at "mm"), (by first | decide | omega), trivial, fun y1 ny1 => ?_⟩
      obtain ⟨H4, eH_, s4, E2⟩ := stepE E1 ny1 (RB.mul (E1.rb (p := m1) (by walk_at "mm")) (E1.rb (p := b) (by walk_at "mm")))
      rw [eH_]
      clear eH_
      refine ⟨_, rfl, _, rfl, ?_⟩
      refine ⟨(by show 2 ≤ sizeLine; decide), fun m2 nm2 => ?_⟩
      obtain ⟨H5, eH_, s5, E3⟩ := litE E2 nm2 fq_m0 RB.zero
      rw [eH_]
      clear eH_
      refine ⟨_, rfl, ?_⟩
      refine ⟨m2, a, _, _, _, _, rfl, E3.get (by walk_at "mm"), E3.get (by walk_at "mm"), E3.rb (p := m2) (by walk_at "mm"), E3.rb (p := a) (by walk_at "mm"), (by first | decide | omega), trivial, fun x1 nx1 => ?_⟩
      obtain ⟨H6, eH_, s6, E4⟩ := stepE E3 nx1 (RB.mul (E3.rb (p := m2) (by walk_at "mm")) (E3.rb (p := a) (by walk_at "mm")))
      rw [eH_]
      clear eH_
      refine ⟨_, rfl, _, rfl, ?_⟩
      refine ⟨(by show 2 ≤ sizeLine; decide), fun m3 nm3 => ?_⟩
      obtain ⟨H7, eH_, s7, E5⟩ := litE E4 nm3 fq_m0 RB.zero
      rw [eH_]
      clear eH_
      refine ⟨(by show 3 ≤ sizeLine; decide), fun l nl => ?_⟩
      have E5_l := E5.same (Same.new (o := .lst [.ref y1, .ref x1, .ref m3]) nl)
      refine ⟨l, _, rfl, lst_of upd_same, (FrE.add (FrE.add (FrE.add FrE.nil (E5_l.get (p := m3) (by walk_at "mm")) (E5_l.rb (p := m3) (by walk_at "mm"))) (E5_l.get (p := x1) (by walk_at "mm")) (E5_l.rb (p := x1) (by walk_at "mm"))) (E5_l.get (p := y1) (by walk_at "mm")) (E5_l.rb (p := y1) (by walk_at "mm"))), (by simp only [List.map_cons, List.map_nil, List.sum_cons, List.sum_nil]; omega), fun H8 ty s8_0 nty hty => ?_⟩
      have s8 := (Same.new (o := .lst [.ref y1, .ref x1, .ref m3]) nl).trans s8_0
      replace hty : H8 ty = some (.tup (fq (-y))) := by
        rw [hty]
        congr 3
        simp only [List.foldl]
        first | walk_at "tv" | grind
      have E6 := (E5_l.same s8_0).add (tup_of hty) byy.neg
      refine ⟨(by show 2 ≤ sizeLine; decide), fun r nr => ?_⟩
      have s9 := Same.new (H := H8) (p := r) (o := .tup [.ref a, .ref ty]) nr
      have sE := s02.trans (s3.trans (s4.trans (s5.trans (s6.trans (s7.trans (s8.trans s9))))))
      exact q r _ sE ⟨a, ty, tup_of upd_same, Same.tup sE h2, E6.same s9 |>.get (p := ty) (by walk_at "mm")⟩
def sp_tangent_slope (K : PySem.W.Frag) : Sp := fun vs H Q _ => ∃ (f p : Addr) (e : Ec) (x y : Rat) (h : Nat), vs = [.ref f, .ref p] ∧ CurT K H f e ∧ e.Bd 15 ∧ PtT K H p (some (x, y)) ∧ RB h x ∧ RB (2 * h + 15) y ∧ h ≤ 400 ∧ y ≠ 0 ∧ ∀ H' t, Same H H' → SqT K H' t (fq (slo e x y x y)) → Q (.ref t) H'
abbrev s_tangent_slope : Stmt := topS 19
theorem sc_tangent_slope : FnScope ["curve", "point", "a1", "a2", "a3", "a4", "_", "x", "y", "upper"] ["curve", "point"] (defScope s_tangent_slope) := ⟨rfl, rfl, rfl, by decide +kernel, rfl, by decide +kernel, by decide +kernel⟩
theorem k_tangent_slope (T : Tx K mg) (D : Df K mg "tangent_slope" s_tangent_slope ["curve", "point"]) (c_five : Kl P w K mg base 1 "five" (sp_five K)) (c_total : Kl P w K mg base 3 "total" (sp_total K)) (c_over : Kl P w K mg base 2 "over" (sp_over K)) (c_product : Kl P w K mg base 3 "product" (sp_product K)) (c_times : Kl P w K mg base 2 "times" (sp_times K)) : Kl P w K mg base 4 "tangent_slope" (sp_tangent_slope K) := by
  have nd := sc_tangent_slope.nd
  refine Kl.by_body D sc_tangent_slope (fun vs H Q E h => ?_) (fun f cdv A outer s H vs Q E hr h => ?_)
  · obtain ⟨_, _, _, _, _, _, rfl, _⟩ := h
    rfl
  · obtain ⟨f, p, e, x, y, h, rfl, hf, hg, ⟨a, b, h1, h2, h3⟩, bx, byy, h9, y0, q⟩ := h
    have hu1 := hu_of hr
    refine ⟨_, (pss_cons (ps_asg (pe_k c_five  hr (by decide) (by rfl) (pa_cons (pv 0) pa_nil)) (pg_tup rfl (pgs_cons (pg_name (i := 2) nd rfl (by first | exact Or.inl rfl | exact Or.inr rfl)) (pgs_cons (pg_name (i := 3) nd rfl (by first | exact Or.inl rfl | exact Or.inr rfl)) (pgs_cons (pg_name (i := 4) nd rfl (by first | exact Or.inl rfl | exact Or.inr rfl)) (pgs_cons (pg_name (i := 5) nd rfl (by first | exact Or.inl rfl | exact Or.inr rfl)) (pgs_cons (pg_name (i := 6) nd rfl (by first | exact Or.inl rfl | exact Or.inr rfl)) pgs_nil)))))))
      (pss_cons (ps_asg (pv 1) (pg_tup rfl (pgs_cons (pg_name (i := 7) nd rfl (by first | exact Or.inl rfl | exact Or.inr rfl)) (pgs_cons (pg_name (i := 8) nd rfl (by first | exact Or.inl rfl | exact Or.inr rfl)) pgs_nil))))
      (pss_cons (ps_set (i := 9) nd rfl (by first | exact Or.inl rfl | exact Or.inr rfl) (pe_k c_total  hr (by decide) (by rfl) (pa_cons (pe_lst (pa_cons (pe_k c_product  hr (by decide) (by rfl) (pa_cons (pe_lst (pa_cons (pe_tup (pa_cons pe_int (pa_cons pe_int pa_nil))) (pa_cons (pv 7) (pa_cons (pv 7) pa_nil)))) pa_nil)) (pa_cons (pe_k c_times  hr (by decide) (by rfl) (pa_cons (pe_tup (pa_cons (pe_op op_mul pe_int (pv 3)) (pa_cons pe_int pa_nil))) (pa_cons (pv 7) pa_nil))) (pa_cons (pe_tup (pa_cons (pv 5) (pa_cons pe_int pa_nil))) (pa_cons (pe_k c_times  hr (by decide) (by rfl) (pa_cons (pe_tup (pa_cons (pe_un un_neg (pv 2)) (pa_cons pe_int pa_nil))) (pa_cons (pv 8) pa_nil))) pa_nil))))) pa_nil)))
      (pss_one (ps_ret (pe_k c_over  hr (by decide) (by rfl) (pa_cons (pv 9) (pa_cons (pe_k c_total  hr (by decide) (by rfl) (pa_cons (pe_lst (pa_cons (pe_k c_times  hr (by decide) (by rfl) (pa_cons (pe_tup (pa_cons pe_int (pa_cons pe_int pa_nil))) (pa_cons (pv 8) pa_nil))) (pa_cons (pe_k c_times  hr (by decide) (by rfl) (pa_cons (pe_tup (pa_cons (pv 2) (pa_cons pe_int pa_nil))) (pa_cons (pv 7) pa_nil))) (pa_cons (pe_tup (pa_cons (pv 4) (pa_cons pe_int pa_nil))) pa_nil)))) pa_nil)) pa_nil)))))))), ?_⟩
    rw [sl_dbl] at q
    have n2 : 2 * y ≠ 0 := by grind
    have bB : RB 15 ((e.b : Int) : Rat) := RB.int hg.b (by decide)
    have a2B : RB 17 ((2 * e.a : Int) : Rat) := RB.int (B.mul (m := 2) (n := 15) (B.lit (by decide)) hg.a) (by decide)
    refine ⟨_, rfl, f, e, rfl, hf, fun u nu => ?_⟩
    have s2 := Same.new (H := H) (p := u) (o := .tup [.int 0, .int e.a, .int 0, .int e.b, .int e.c]) nu
    have gu : upd H u (.tup [.int 0, .int e.a, .int 0, .int e.b, .int e.c]) u = some (.tup [.int 0, .int e.a, .int 0, .int e.b, .int e.c]) := upd_same
    generalize upd H u (.tup [.int 0, .int e.a, .int 0, .int e.b, .int e.c]) = H2 at s2 gu ⊢
    refine ⟨u, _, rfl, tup_of gu, rfl, _, _, rfl, _, _, rfl, _, _, rfl, _, _, rfl, _, _, rfl, rfl, ?_⟩
    first | refine sigN [some (.ref f), some (.ref p), some (.int (0)), some (.int (e.a)), some (.int (0)), some (.int (e.b)), some (.int (e.c)), none, none, none] (by rfl) ?_ | refine sig [some (.ref f), some (.ref p), some (.int (0)), some (.int (e.a)), some (.int (0)), some (.int (e.b)), some (.int (e.c)), none, none, none] (by rfl) ?_
    refine ⟨_, rfl, p, _, rfl, Same.tup s2 h1, rfl, _, _, rfl, _, _, rfl, rfl, ?_⟩
    first | refine sigN [some (.ref f), some (.ref p), some (.int (0)), some (.int (e.a)), some (.int (0)), some (.int (e.b)), some (.int (e.c)), some (.ref a), some (.ref b), none] (by rfl) ?_ | refine sig [some (.ref f), some (.ref p), some (.int (0)), some (.int (e.a)), some (.int (0)), some (.int (e.b)), some (.int (e.c)), some (.ref a), some (.ref b), none] (by rfl) ?_
    have E0 : FrE K H2 [(a, x, h), (b, y, 2 * h + 15)] := FrE.add (FrE.add FrE.nil (Same.tup s2 h3) byy) (Same.tup s2 h2) bx
    refine ⟨(by show 2 ≤ sizeLine; decide), fun three nthree => ?_⟩
    obtain ⟨H3, eH_, s3, E1⟩ := litE E0 nthree fq_3 rb_three
    rw [eH_]
    clear eH_
    refine ⟨_, rfl, _, rfl, ?_⟩
    refine ⟨(by show 3 ≤ sizeLine; decide), fun l1 nl1 => ?_⟩
    have E1_l := E1.same (Same.new (o := .lst [.ref three, .ref a, .ref a]) nl1)
    refine ⟨l1, _, rfl, lst_of upd_same, (FrE.add (FrE.add (FrE.add FrE.nil (E1_l.get (p := a) (by walk_at "mm")) (E1_l.rb (p := a) (by walk_at "mm"))) (E1_l.get (p := a) (by walk_at "mm")) (E1_l.rb (p := a) (by walk_at "mm"))) (E1_l.get (p := three) (by walk_at "mm")) (E1_l.rb (p := three) (by walk_at "mm"))), (by simp only [List.map_cons, List.map_nil, List.sum_cons, List.sum_nil]; omega), fun H4 pr s4_0 npr hpr => ?_⟩
    have s4 := (Same.new (o := .lst [.ref three, .ref a, .ref a]) nl1).trans s4_0
    replace hpr : H4 pr = some (.tup (fq (3 * (x * x)))) := by
      rw [hpr]
      congr 3
      simp only [List.foldl]
      first | walk_at "tv" | grind
    have E2 := (E1_l.same s4_0).add (tup_of hpr) (rb_three.mul (bx.mul bx))
    refine ⟨_, rfl, _, _, rfl, rfl, Or.inl ⟨by decide, by decide⟩, ?_⟩
    refine ⟨(by show 2 ≤ sizeLine; decide), fun ta nta => ?_⟩
    obtain ⟨H5, eH_, s5, E3⟩ := litE E2 nta (fq_int _).symm a2B
    rw [eH_]
    clear eH_
    refine ⟨_, rfl, ?_⟩
    refine ⟨ta, a, _, _, _, _, rfl, E3.get (by walk_at "mm"), E3.get (by walk_at "mm"), E3.rb (p := ta) (by walk_at "mm"), E3.rb (p := a) (by walk_at "mm"), (by first | decide | omega), trivial, fun ax nax => ?_⟩
    obtain ⟨H6, eH_, s6, E4⟩ := stepE E3 nax (RB.mul (E3.rb (p := ta) (by walk_at "mm")) (E3.rb (p := a) (by walk_at "mm")))
    rw [eH_]
    clear eH_
    refine ⟨_, rfl, ?_⟩
    refine ⟨(by show 2 ≤ sizeLine; decide), fun tb ntb => ?_⟩
    obtain ⟨H7, eH_, s7, E5⟩ := litE E4 ntb (fq_int _).symm bB
    rw [eH_]
    clear eH_
    refine ⟨_, rfl, _, rfl, ?_⟩
    refine ⟨(by show 2 ≤ sizeLine; decide), fun m0 nm0 => ?_⟩
    obtain ⟨H8, eH_, s8, E6⟩ := litE E5 nm0 fq_m0 RB.zero
    rw [eH_]
    clear eH_
    refine ⟨_, rfl, ?_⟩
    refine ⟨m0, b, _, _, _, _, rfl, E6.get (by walk_at "mm"), E6.get (by walk_at "mm"), E6.rb (p := m0) (by walk_at "mm"), E6.rb (p := b) (by walk_at "mm"), (by first | decide | omega), trivial, fun zy nzy => ?_⟩
    obtain ⟨H9, eH_, s9, E7⟩ := stepE E6 nzy (RB.mul (E6.rb (p := m0) (by walk_at "mm")) (E6.rb (p := b) (by walk_at "mm")))
    rw [eH_]
    clear eH_
    refine ⟨(by show 4 ≤ sizeLine; decide), fun l2 nl2 => ?_⟩
    have E7_l := E7.same (Same.new (o := .lst [.ref pr, .ref ax, .ref tb, .ref zy]) nl2)
    refine ⟨l2, _, rfl, lst_of upd_same, (FrE.add (FrE.add (FrE.add (FrE.add FrE.nil (E7_l.get (p := zy) (by walk_at "mm")) (E7_l.rb (p := zy) (by walk_at "mm"))) (E7_l.get (p := tb) (by walk_at "mm")) (E7_l.rb (p := tb) (by walk_at "mm"))) (E7_l.get (p := ax) (by walk_at "mm")) (E7_l.rb (p := ax) (by walk_at "mm"))) (E7_l.get (p := pr) (by walk_at "mm")) (E7_l.rb (p := pr) (by walk_at "mm"))), (by simp only [List.map_cons, List.map_nil, List.sum_cons, List.sum_nil]; omega), fun Ha up sa_0 nup hup => ?_⟩
    have sa := (Same.new (o := .lst [.ref pr, .ref ax, .ref tb, .ref zy]) nl2).trans sa_0
    replace hup : Ha up = some (.tup (fq (3 * (x * x) + (((2 * e.a : Int) : Rat) * x + (e.b : Rat))))) := by
      rw [hup]
      congr 3
      simp only [List.foldl]
      first | walk_at "tv" | grind
    have E8 := (E7_l.same sa_0).add (tup_of hup) ((rb_three.mul (bx.mul bx)).add ((a2B.mul bx).add bB))
    first | refine sigN [some (.ref f), some (.ref p), some (.int (0)), some (.int (e.a)), some (.int (0)), some (.int (e.b)), some (.int (e.c)), some (.ref a), some (.ref b), some (.ref up)] (by rfl) ?_ | refine sig [some (.ref f), some (.ref p), some (.int (0)), some (.int (e.a)), some (.int (0)), some (.int (e.b)), some (.int (e.c)), some (.ref a), some (.ref b), some (.ref up)] (by rfl) ?_
    refine ⟨_, rfl, ?_⟩
    refine ⟨(by show 2 ≤ sizeLine; decide), fun two ntwo => ?_⟩
    obtain ⟨Hb, eH_, sb, E9⟩ := litE E8 ntwo fq_2 rb_two
    rw [eH_]
    clear eH_
    refine ⟨_, rfl, ?_⟩
    refine ⟨two, b, _, _, _, _, rfl, E9.get (by walk_at "mm"), E9.get (by walk_at "mm"), E9.rb (p := two) (by walk_at "mm"), E9.rb (p := b) (by walk_at "mm"), (by first | decide | omega), trivial, fun yy nyy => ?_⟩
    obtain ⟨Hc, eH_, sc, E10⟩ := stepE E9 nyy (RB.mul (E9.rb (p := two) (by walk_at "mm")) (E9.rb (p := b) (by walk_at "mm")))
    rw [eH_]
    clear eH_
    refine ⟨_, rfl, ?_⟩
    refine ⟨(by show 2 ≤ sizeLine; decide), fun z1 nz1 => ?_⟩
    obtain ⟨Hd, eH_, sd, E11⟩ := litE E10 nz1 fq_0 RB.zero
    rw [eH_]
    clear eH_
    refine ⟨_, rfl, ?_⟩
    refine ⟨z1, a, _, _, _, _, rfl, E11.get (by walk_at "mm"), E11.get (by walk_at "mm"), E11.rb (p := z1) (by walk_at "mm"), E11.rb (p := a) (by walk_at "mm"), (by first | decide | omega), trivial, fun zx nzx => ?_⟩
    obtain ⟨He, eH_, se, E12⟩ := stepE E11 nzx (RB.mul (E11.rb (p := z1) (by walk_at "mm")) (E11.rb (p := a) (by walk_at "mm")))
    rw [eH_]
    clear eH_
    refine ⟨_, rfl, ?_⟩
    refine ⟨(by show 2 ≤ sizeLine; decide), fun z2 nz2 => ?_⟩
    obtain ⟨Hf, eH_, sf, E13⟩ := litE E12 nz2 fq_0 RB.zero
    rw [eH_]
    clear eH_
    refine ⟨(by show 3 ≤ sizeLine; decide), fun l3 nl3 => ?_⟩
    have E13_l := E13.same (Same.new (o := .lst [.ref yy, .ref zx, .ref z2]) nl3)
    refine ⟨l3, _, rfl, lst_of upd_same, (FrE.add (FrE.add (FrE.add FrE.nil (E13_l.get (p := z2) (by walk_at "mm")) (E13_l.rb (p := z2) (by walk_at "mm"))) (E13_l.get (p := zx) (by walk_at "mm")) (E13_l.rb (p := zx) (by walk_at "mm"))) (E13_l.get (p := yy) (by walk_at "mm")) (E13_l.rb (p := yy) (by walk_at "mm"))), (by simp only [List.map_cons, List.map_nil, List.sum_cons, List.sum_nil]; omega), fun Hg low sg_0 nlow hlow => ?_⟩
    have sg := (Same.new (o := .lst [.ref yy, .ref zx, .ref z2]) nl3).trans sg_0
    replace hlow : Hg low = some (.tup (fq (2 * y))) := by
      rw [hlow]
      congr 3
      simp only [List.foldl]
      first | walk_at "tv" | grind
    have E14 := (E13_l.same sg_0).add (tup_of hlow) (rb_two.mul byy)
    refine ⟨up, low, _, _, _, _, rfl, E14.get (by walk_at "mm"), E14.get (by walk_at "mm"), E14.rb (p := up) (by walk_at "mm"), E14.rb (p := low) (by walk_at "mm"), (by first | decide | omega), n2, fun k nk => ?_⟩
    obtain ⟨Hh, eH_, sh, E15⟩ := stepE E14 nk (RB.div n2 (E14.rb (p := up) (by walk_at "mm")) (E14.rb (p := low) (by walk_at "mm")))
    rw [eH_]
    clear eH_
    exact q _ k (s2.trans (s3.trans (s4.trans (s5.trans (s6.trans (s7.trans (s8.trans (s9.trans (sa.trans (sb.trans (sc.trans (sd.trans (se.trans (sf.trans (sg.trans sh))))))))))))))) (E15.get (p := k) (by walk_at "mm"))
def sp_line_of (K : PySem.W.Frag) : Sp := fun vs H Q _ => ∃ (f p o : Addr) (e : Ec) (x y u v : Rat) (h j : Nat), vs = [.ref f, .ref p, .ref o] ∧ CurT K H f e ∧ e.Bd 15 ∧ PtT K H p (some (x, y)) ∧ PtT K H o (some (u, v)) ∧ On e (some (x, y)) ∧ On e (some (u, v)) ∧ RB h x ∧ RB j u ∧ h + j ≤ 400 ∧
  (x = u ∧ -y = v → ∀ H' t z, Same H H' → SqT K H' t [.str "up", z] → Q (.ref t) H') ∧ (¬ (x = u ∧ -y = v) → ∀ H' t kk hh, Same H H' → SqT K H' t [.str "line", .ref kk, .ref hh] → SqT K H' kk (fq (slo e x y u v)) → SqT K H' hh (fq (y - slo e x y u v * x)) → Q (.ref t) H')
abbrev s_line_of : Stmt := topS 20
theorem sc_line_of : FnScope ["curve", "point", "other", "x", "y", "k"] ["curve", "point", "other"] (defScope s_line_of) := ⟨rfl, rfl, rfl, by decide +kernel, rfl, by decide +kernel, by decide +kernel⟩
theorem k_line_of (T : Tx K mg) (D : Df K mg "line_of" s_line_of ["curve", "point", "other"]) (c_opposite : Kl P w K mg base 4 "opposite" (sp_opposite K)) (c_tangent_slope : Kl P w K mg base 4 "tangent_slope" (sp_tangent_slope K)) (c_over : Kl P w K mg base 2 "over" (sp_over K)) (c_less : Kl P w K mg base 2 "less" (sp_less K)) (c_times : Kl P w K mg base 2 "times" (sp_times K)) : Kl P w K mg base 5 "line_of" (sp_line_of K) := by
  have nd := sc_line_of.nd
  refine Kl.by_body D sc_line_of (fun vs H Q E h => ?_) (fun f cdv A outer s H vs Q E hr h => ?_)
  · obtain ⟨_, _, _, _, _, _, _, _, _, _, rfl, _⟩ := h
    rfl
  · obtain ⟨f, p, o, e, x, y, u, v, h, j, rfl, hf, hg, hp, ho, onS, onR, hS, hR, hhj, qU, qL⟩ := h
    have hu1 := hu_of hr
    refine ⟨_, (pss_cons (ps_if (PW.pt (pw_or (pt_cmpR (op_eqD hr.units) (pv 1) (pe_tup pa_nil) (nomark _)) (pw_or1 (pt_cmpR (op_eqD hr.units) (pv 2) (pe_tup pa_nil) (nomark _))))) (pss_one (ps_ret pe_non)) pss_nil)
      (pss_cons (ps_asg (pv 1) (pg_tup rfl (pgs_cons (pg_name (i := 3) nd rfl (by first | exact Or.inl rfl | exact Or.inr rfl)) (pgs_cons (pg_name (i := 4) nd rfl (by first | exact Or.inl rfl | exact Or.inr rfl)) pgs_nil))))
      (pss_cons (ps_if (pt_cmpR (op_eqD hr.units) (pv 2) (pe_k c_opposite  hr (by decide) (by rfl) (pa_cons (pv 0) (pa_cons (pv 1) pa_nil))) (nomark _)) (pss_one (ps_ret (pe_tup (pa_cons pe_str (pa_cons (pv 3) pa_nil))))) pss_nil)
      (C8.pss_cut (ps_if (pt_cmpR (op_eqD hr.units) (pv 2) (pv 1) (nomark _)) (pss_one (ps_set (i := 5) nd rfl (by first | exact Or.inl rfl | exact Or.inr rfl) (pe_k c_tangent_slope  hr (by decide) (by rfl) (pa_cons (pv 0) (pa_cons (pv 1) pa_nil))))) (pss_one (ps_set (i := 5) nd rfl (by first | exact Or.inl rfl | exact Or.inr rfl) (pe_k c_over  hr (by decide) (by rfl) (pa_cons (pe_k c_less  hr (by decide) (by rfl) (pa_cons (pe_ix ix_tup (pv 2) pe_int (fun _ _ => rfl)) (pa_cons (pv 4) pa_nil))) (pa_cons (pe_k c_less  hr (by decide) (by rfl) (pa_cons (pe_ix ix_tup (pv 2) pe_int (fun _ _ => rfl)) (pa_cons (pv 3) pa_nil))) pa_nil))))))
      (pss_one (ps_ret (pe_tup (pa_cons pe_str (pa_cons (pv 5) (pa_cons (pe_k c_less  hr (by decide) (by rfl) (pa_cons (pv 4) (pa_cons (pe_k c_times  hr (by decide) (by rfl) (pa_cons (pv 5) (pa_cons (pv 3) pa_nil))) pa_nil))) pa_nil)))))))))), ?_⟩
    have yB : RB (2 * h + 15) y := y_RB (h := h) (g := 15) onS hS hg
    have vB : RB (2 * j + 15) v := y_RB (h := j) (g := 15) onR hR hg
    refine ⟨_, rfl, (by show 0 ≤ sizeLine; decide), fun z nz => ?_⟩
    have s1 := Same.new (H := H) (p := z) (o := .tup []) nz
    have gz : upd H z (.tup []) z = some (.tup []) := upd_same
    generalize upd H z (.tup []) = H1 at s1 gz ⊢
    refine ⟨dP (some (x, y)), .tuple [], dp_pt (hp.same s1), dp0 (tup_of gz), sh_P _, rfl, _, rfl, iteF ?_⟩
    refine ⟨_, rfl, (by show 0 ≤ sizeLine; decide), fun z2 nz2 => ?_⟩
    have s2 := Same.new (H := H1) (p := z2) (o := .tup []) nz2
    have gz2 : upd H1 z2 (.tup []) z2 = some (.tup []) := upd_same
    generalize upd H1 z2 (.tup []) = H2 at s2 gz2 ⊢
    have s02 := s1.trans s2
    refine ⟨dP (some (u, v)), .tuple [], dp_pt (ho.same s02), dp0 (tup_of gz2), sh_P _, rfl, _, rfl, iteF ?_⟩
    have hp2 := hp.same s02
    obtain ⟨a, b, h1, h2, h3⟩ := hp2
    refine ⟨_, rfl, p, _, rfl, h1, rfl, _, _, rfl, _, _, rfl, rfl, ?_⟩
    first | refine sigN [some (.ref f), some (.ref p), some (.ref o), some (.ref a), some (.ref b), none] (by rfl) ?_ | refine sig [some (.ref f), some (.ref p), some (.ref o), some (.ref a), some (.ref b), none] (by rfl) ?_
    refine ⟨_, rfl, _, rfl, _, rfl, f, p, e, some (x, y), rfl, hf.same s02, hp.same s02, ⟨hS.up (by omega), yB.up (by omega)⟩, fun t H3 s3 ht => ?_⟩
    have s03 := s02.trans s3
    refine ⟨dP (some (u, v)), dP (neg (some (x, y))), dp_pt (ho.same s03), dp_pt ht, sh_P _, sh_P _, _, rfl, ?_⟩
    rw [eqv_P]
    by_cases hop : x = u ∧ -y = v
    · refine iteY (decide_eq_true (by show some (u, v) = some (x, -y); rw [hop.1, hop.2])) ?_
      refine ⟨_, rfl, (by show 2 ≤ sizeLine; decide), fun r nr => ?_⟩
      exact qU hop _ r _ (s03.trans (Same.new nr)) (tup_of upd_same)
    refine iteN (fun h => hop (by
      have h1 := of_decide_eq_true h
      have h2 : some (u, v) = some (x, -y) := h1
      obtain ⟨h3, h4⟩ := Prod.mk.inj (Option.some.inj h2)
      exact ⟨h3.symm, h4.symm⟩)) ?_
    have E0 : FrE K H3 [(a, x, h), (b, y, 2 * h + 15)] := FrE.add (FrE.add FrE.nil (Same.tup s3 h3) yB) (Same.tup s3 h2) hS
    refine ⟨fun σ H4 => Same H3 H4 ∧ ∃ kk, σ = [some (.ref f), some (.ref p), some (.ref o), some (.ref a), some (.ref b), some (.ref kk)] ∧ SqT K H4 kk (fq (slo e x y u v)), ?_, ?_⟩
    · refine ⟨_, rfl, _, rfl, dP (some (u, v)), dP (some (x, y)), dp_pt (ho.same s03), dp_pt (hp.same s03), sh_P _, sh_P _, _, rfl, ?_⟩
      rw [eqv_P]
      by_cases hsame : x = u ∧ y = v
      · refine iteY (decide_eq_true (by rw [hsame.1, hsame.2])) ?_
        have y0 : y ≠ 0 := fun z => hop ⟨hsame.1, by rw [← hsame.2, z]; rfl⟩
        obtain ⟨rfl, rfl⟩ := hsame
        refine ⟨_, rfl, _, rfl, f, p, e, x, y, h, rfl, hf.same s03, hg, hp.same s03, hS, yB, by omega, y0, fun H4 kk s4 hk => ?_⟩
        exact ⟨s4, kk, rfl, hk⟩
      · refine iteN (fun h => hsame (by
          have h1 := of_decide_eq_true h
          obtain ⟨h3, h4⟩ := Prod.mk.inj (Option.some.inj h1)
          exact ⟨h3.symm, h4.symm⟩)) ?_
        have nx : u - x ≠ 0 := by
          intro h0
          have hx : x = u := by grind
          subst hx
          rcases same_x onS onR with z | z
          · exact hsame ⟨rfl, z⟩
          · exact hop ⟨rfl, z⟩
        have ho3 := ho.same s03
        obtain ⟨pu, pv, g4, g5, g6⟩ := ho3
        have E1 : FrE K H3 [(pu, u, j), (pv, v, 2 * j + 15), (a, x, h), (b, y, 2 * h + 15)] := FrE.add (FrE.add E0 g6 vB) g5 hR
        refine ⟨_, rfl, o, _, 1, _, rfl, rfl, g4, rfl, _, rfl, ?_⟩
        refine ⟨pv, b, _, _, _, _, rfl, E1.get (by walk_at "mm"), E1.get (by walk_at "mm"), E1.rb (p := pv) (by walk_at "mm"), E1.rb (p := b) (by walk_at "mm"), (by first | decide | omega), trivial, fun d1 nd1 => ?_⟩
        obtain ⟨I1, eH_, i1, E2⟩ := stepE E1 nd1 (RB.sub (E1.rb (p := pv) (by walk_at "mm")) (E1.rb (p := b) (by walk_at "mm")))
        rw [eH_]
        clear eH_
        refine ⟨_, rfl, o, _, 0, _, rfl, rfl, Same.tup i1 g4, rfl, _, rfl, ?_⟩
        refine ⟨pu, a, _, _, _, _, rfl, E2.get (by walk_at "mm"), E2.get (by walk_at "mm"), E2.rb (p := pu) (by walk_at "mm"), E2.rb (p := a) (by walk_at "mm"), (by first | decide | omega), trivial, fun d2 nd2 => ?_⟩
        obtain ⟨I2, eH_, i2, E3⟩ := stepE E2 nd2 (RB.sub (E2.rb (p := pu) (by walk_at "mm")) (E2.rb (p := a) (by walk_at "mm")))
        rw [eH_]
        clear eH_
        refine ⟨d1, d2, _, _, _, _, rfl, E3.get (by walk_at "mm"), E3.get (by walk_at "mm"), E3.rb (p := d1) (by walk_at "mm"), E3.rb (p := d2) (by walk_at "mm"), (by first | decide | omega), nx, fun kk nkk => ?_⟩
        obtain ⟨I3, eH_, i3, E4⟩ := stepE E3 nkk (RB.div nx (E3.rb (p := d1) (by walk_at "mm")) (E3.rb (p := d2) (by walk_at "mm")))
        rw [eH_]
        clear eH_
        refine ⟨i1.trans (i2.trans i3), kk, rfl, ?_⟩
        rw [sl_two hsame]
        exact E4.get (p := kk) (by walk_at "mm")
    · rintro σ H4 ⟨s4, kk, rfl, hk⟩
      have kB := slo_RB hg onS onR hS hR yB vB hop
      have E2 : FrE K H4 [(kk, slo e x y u v, 5 * (h + j) + 60), (a, x, h), (b, y, 2 * h + 15)] := FrE.add (E0.same s4) hk kB
      refine ⟨_, rfl, _, rfl, _, rfl, _, rfl, ?_⟩
      refine ⟨kk, a, _, _, _, _, rfl, E2.get (by walk_at "mm"), E2.get (by walk_at "mm"), E2.rb (p := kk) (by walk_at "mm"), E2.rb (p := a) (by walk_at "mm"), (by first | decide | omega), trivial, fun kx nkx => ?_⟩
      obtain ⟨H5, eH_, s5, E3⟩ := stepE E2 nkx (RB.mul (E2.rb (p := kk) (by walk_at "mm")) (E2.rb (p := a) (by walk_at "mm")))
      rw [eH_]
      clear eH_
      refine ⟨b, kx, _, _, _, _, rfl, E3.get (by walk_at "mm"), E3.get (by walk_at "mm"), E3.rb (p := b) (by walk_at "mm"), E3.rb (p := kx) (by walk_at "mm"), (by first | decide | omega), trivial, fun hh nhh => ?_⟩
      obtain ⟨H6, eH_, s6, E4⟩ := stepE E3 nhh (RB.sub (E3.rb (p := b) (by walk_at "mm")) (E3.rb (p := kx) (by walk_at "mm")))
      rw [eH_]
      clear eH_
      refine ⟨(by show 3 ≤ sizeLine; decide), fun r nr => ?_⟩
      have s7 := Same.new (H := H6) (p := r) (o := .tup [.str "line", .ref kk, .ref hh]) nr
      have E5 := E4.same s7
      exact qL hop _ r kk hh (s03.trans (s4.trans (s5.trans (s6.trans s7)))) (tup_of upd_same) (E5.get (p := kk) (by walk_at "mm")) (E5.get (p := hh) (by walk_at "mm"))
def sp_added (K : PySem.W.Frag) : Sp := fun vs H Q _ => ∃ (f p o : Addr) (e : Ec) (S R : Pt) (h j : Nat), vs = [.ref f, .ref p, .ref o] ∧ CurT K H f e ∧ e.Bd 15 ∧ PtT K H p S ∧ PtT K H o R ∧ On e S ∧ On e R ∧ HB h S ∧ HB j R ∧ h + j ≤ 400 ∧ ∀ t H', Same H H' → PtT K H' t (sum e S R) → Q (.ref t) H'
abbrev s_added : Stmt := topS 21
theorem sc_added : FnScope ["curve", "point", "other", "line", "a1", "a2", "_", "k", "h", "x"] ["curve", "point", "other"] (defScope s_added) := ⟨rfl, rfl, rfl, by decide +kernel, rfl, by decide +kernel, by decide +kernel⟩
theorem k_added (T : Tx K mg) (D : Df K mg "added" s_added ["curve", "point", "other"]) (c_line_of : Kl P w K mg base 5 "line_of" (sp_line_of K)) (c_five : Kl P w K mg base 1 "five" (sp_five K)) (c_total : Kl P w K mg base 3 "total" (sp_total K)) (c_opposite : Kl P w K mg base 4 "opposite" (sp_opposite K)) (c_times : Kl P w K mg base 2 "times" (sp_times K)) (c_plus : Kl P w K mg base 2 "plus" (sp_plus K)) : Kl P w K mg base 6 "added" (sp_added K) := by
  have nd := sc_added.nd
  refine Kl.by_body D sc_added (fun vs H Q E h => ?_) (fun f cdv A outer s H vs Q E hr h => ?_)
  · obtain ⟨_, _, _, _, _, _, _, _, rfl, _⟩ := h
    rfl
  · obtain ⟨f, p, o, e, S, R, h, j, rfl, hf, hg, hp, ho, onS, onR, hS, hR, hhj, q⟩ := h
    have hu1 := hu_of hr
    refine ⟨_, (pss_cons (ps_if (pt_cmpR (op_eqD hr.units) (pv 1) (pe_tup pa_nil) (nomark _)) (pss_one (ps_ret (pv 2))) pss_nil)
      (pss_cons (ps_if (pt_cmpR (op_eqD hr.units) (pv 2) (pe_tup pa_nil) (nomark _)) (pss_one (ps_ret (pv 1))) pss_nil)
      (pss_cons (ps_set (i := 3) nd rfl (by first | exact Or.inl rfl | exact Or.inr rfl) (pe_k c_line_of  hr (by decide) (by rfl) (pa_cons (pv 0) (pa_cons (pv 1) (pa_cons (pv 2) pa_nil)))))
      (pss_cons (ps_if (pt_cmpR op_eq (pe_ix ix_tup (pv 3) pe_int (fun _ _ => rfl)) pe_str (nomark _)) (pss_one (ps_ret (pe_tup pa_nil))) pss_nil)
      (pss_cons (ps_asg (pe_k c_five  hr (by decide) (by rfl) (pa_cons (pv 0) pa_nil)) (pg_tup rfl (pgs_cons (pg_name (i := 4) nd rfl (by first | exact Or.inl rfl | exact Or.inr rfl)) (pgs_cons (pg_name (i := 5) nd rfl (by first | exact Or.inl rfl | exact Or.inr rfl)) (pgs_cons (pg_name (i := 6) nd rfl (by first | exact Or.inl rfl | exact Or.inr rfl)) (pgs_cons (pg_name (i := 6) nd rfl (by first | exact Or.inl rfl | exact Or.inr rfl)) (pgs_cons (pg_name (i := 6) nd rfl (by first | exact Or.inl rfl | exact Or.inr rfl)) pgs_nil)))))))
      (pss_cons (ps_asg (pv 3) (pg_tup rfl (pgs_cons (pg_name (i := 6) nd rfl (by first | exact Or.inl rfl | exact Or.inr rfl)) (pgs_cons (pg_name (i := 7) nd rfl (by first | exact Or.inl rfl | exact Or.inr rfl)) (pgs_cons (pg_name (i := 8) nd rfl (by first | exact Or.inl rfl | exact Or.inr rfl)) pgs_nil)))))
      (pss_cons (ps_set (i := 9) nd rfl (by first | exact Or.inl rfl | exact Or.inr rfl) (pe_k c_total  hr (by decide) (by rfl) (pa_cons (pe_lst (pa_cons (pe_k c_times  hr (by decide) (by rfl) (pa_cons (pv 7) (pa_cons (pe_k c_plus  hr (by decide) (by rfl) (pa_cons (pv 7) (pa_cons (pe_tup (pa_cons (pv 4) (pa_cons pe_int pa_nil))) pa_nil))) pa_nil))) (pa_cons (pe_tup (pa_cons (pe_un un_neg (pv 5)) (pa_cons pe_int pa_nil))) (pa_cons (pe_k c_times  hr (by decide) (by rfl) (pa_cons (pe_tup (pa_cons (pe_un un_neg pe_int) (pa_cons pe_int pa_nil))) (pa_cons (pe_ix ix_tup (pv 1) pe_int (fun _ _ => rfl)) pa_nil))) (pa_cons (pe_k c_times  hr (by decide) (by rfl) (pa_cons (pe_tup (pa_cons (pe_un un_neg pe_int) (pa_cons pe_int pa_nil))) (pa_cons (pe_ix ix_tup (pv 2) pe_int (fun _ _ => rfl)) pa_nil))) pa_nil))))) pa_nil)))
      (pss_one (ps_ret (pe_k c_opposite  hr (by decide) (by rfl) (pa_cons (pv 0) (pa_cons (pe_tup (pa_cons (pv 9) (pa_cons (pe_k c_plus  hr (by decide) (by rfl) (pa_cons (pe_k c_times  hr (by decide) (by rfl) (pa_cons (pv 7) (pa_cons (pv 9) pa_nil))) (pa_cons (pv 8) pa_nil))) pa_nil))) pa_nil)))))))))))), ?_⟩
    refine ⟨_, rfl, (by show 0 ≤ sizeLine; decide), fun z nz => ?_⟩
    have s1 := Same.new (H := H) (p := z) (o := .tup []) nz
    have gz : upd H z (.tup []) z = some (.tup []) := upd_same
    generalize upd H z (.tup []) = H1 at s1 gz ⊢
    refine ⟨dP S, .tuple [], dp_pt (hp.same s1), dp0 (tup_of gz), sh_P S, rfl, _, rfl, ?_⟩
    rw [eqv_P0]
    cases S with
    | none =>
      refine iteY rfl ⟨_, rfl, ?_⟩
      exact q o _ s1 (by cases R <;> exact ho.same s1)
    | some S =>
      refine iteN (by simp) ?_
      refine ⟨_, rfl, (by show 0 ≤ sizeLine; decide), fun z2 nz2 => ?_⟩
      have s2 := Same.new (H := H1) (p := z2) (o := .tup []) nz2
      have gz2 : upd H1 z2 (.tup []) z2 = some (.tup []) := upd_same
      generalize upd H1 z2 (.tup []) = H2 at s2 gz2 ⊢
      have s02 := s1.trans s2
      refine ⟨dP R, .tuple [], dp_pt (ho.same s02), dp0 (tup_of gz2), sh_P R, rfl, _, rfl, ?_⟩
      rw [eqv_P0]
      cases R with
      | none =>
        refine iteY rfl ⟨_, rfl, ?_⟩
        exact q p _ s02 (hp.same s02)
      | some R =>
        refine iteN (by simp) ?_
        obtain ⟨x, y⟩ := S
        obtain ⟨u, v⟩ := R
        replace hS : RB h x := hS
        replace hR : RB j u := hR
        have yB : RB (2 * h + 15) y := y_RB (h := h) (g := 15) onS hS hg
        have vB : RB (2 * j + 15) v := y_RB (h := j) (g := 15) onR hR hg
        have farB : HB (2 * h + 2 * j + 2 * 15 + 6) (sum e (some (x, y)) (some (u, v))) := sum_HB (h := h) (j := j) (g := 15) onS onR hS hR hg
        have onT := On.sum onS onR
        refine ⟨_, rfl, _, rfl, _, rfl, f, p, o, e, x, y, u, v, h, j, rfl, hf.same s02, hg, hp.same s02, ho.same s02, onS, onR, hS, hR, hhj, fun hop H3 t z s3 ht => ?_, fun hop H3 t kk hh s3 ht hk hhh => ?_⟩
        · refine ⟨_, rfl, t, _, 0, _, rfl, rfl, ht, rfl, rfl, _, rfl, iteY (by simp) ?_⟩
          refine ⟨(by show 0 ≤ sizeLine; decide), fun r nr => ?_⟩
          refine q r _ (s02.trans (s3.trans (Same.new nr))) ?_
          have : sum e (some (x, y)) (some (u, v)) = none := if_pos hop
          rw [this]
          exact tup_of upd_same
        · refine ⟨_, rfl, t, _, 0, _, rfl, rfl, ht, rfl, rfl, _, rfl, iteN (by decide +kernel) ?_⟩
          have esum : sum e (some (x, y)) (some (u, v)) = some (px e (slo e x y u v) x u, -(y + slo e x y u v * (px e (slo e x y u v) x u - x))) := if_neg hop
          rw [esum] at q farB onT
          replace farB : RB (2 * h + 2 * j + 2 * 15 + 6) (px e (slo e x y u v) x u) := farB
          have s03 := s02.trans s3
          have kB := slo_RB hg onS onR hS hR yB vB hop
          have aB : RB 15 ((e.a : Int) : Rat) := RB.int hg.a (by decide)
          refine ⟨_, rfl, f, e, rfl, hf.same s03, fun w nw => ?_⟩
          have s4 := Same.new (H := H3) (p := w) (o := .tup [.int 0, .int e.a, .int 0, .int e.b, .int e.c]) nw
          have gw : upd H3 w (.tup [.int 0, .int e.a, .int 0, .int e.b, .int e.c]) w = some (.tup [.int 0, .int e.a, .int 0, .int e.b, .int e.c]) := upd_same
          generalize upd H3 w (.tup [.int 0, .int e.a, .int 0, .int e.b, .int e.c]) = H4 at s4 gw ⊢
          have s04 := s03.trans s4
          refine ⟨w, _, rfl, tup_of gw, rfl, _, _, rfl, _, _, rfl, _, _, rfl, _, _, rfl, _, _, rfl, rfl, ?_⟩
          first | refine sigN [some (.ref f), some (.ref p), some (.ref o), some (.ref t), some (.int (0)), some (.int (e.a)), some (.int (e.c)), none, none, none] (by rfl) ?_ | refine sig [some (.ref f), some (.ref p), some (.ref o), some (.ref t), some (.int (0)), some (.int (e.a)), some (.int (e.c)), none, none, none] (by rfl) ?_
          refine ⟨_, rfl, t, _, rfl, Same.tup s4 ht, rfl, _, _, rfl, _, _, rfl, _, _, rfl, rfl, ?_⟩
          first | refine sigN [some (.ref f), some (.ref p), some (.ref o), some (.ref t), some (.int (0)), some (.int (e.a)), some (V.str "line"), some (.ref kk), some (.ref hh), none] (by rfl) ?_ | refine sig [some (.ref f), some (.ref p), some (.ref o), some (.ref t), some (.int (0)), some (.int (e.a)), some (V.str "line"), some (.ref kk), some (.ref hh), none] (by rfl) ?_
          have hp4 := hp.same s04
          have ho4 := ho.same s04
          obtain ⟨a, b, h1, h2, h3⟩ := hp4
          obtain ⟨pu, pv, g4, g5, g6⟩ := ho4
          have hB : RB (8 * (h + j) + 100) (y - slo e x y u v * x) := (yB.sub (kB.mul hS)).up (by omega)
          have E0 : FrE K H4 [(kk, slo e x y u v, 5 * (h + j) + 60), (hh, y - slo e x y u v * x, 8 * (h + j) + 100), (a, x, h), (pu, u, j)] := FrE.add (FrE.add (FrE.add (FrE.add FrE.nil g5 hR) h2 hS) (Same.tup s4 hhh) hB) (Same.tup s4 hk) kB
          refine ⟨_, rfl, _, rfl, _, rfl, ?_⟩
          refine ⟨(by show 2 ≤ sizeLine; decide), fun z3 nz3 => ?_⟩
          obtain ⟨H5, eH_, s5, E1⟩ := litE E0 nz3 fq_0 RB.zero
          rw [eH_]
          clear eH_
          refine ⟨kk, z3, _, _, _, _, rfl, E1.get (by walk_at "mm"), E1.get (by walk_at "mm"), E1.rb (p := kk) (by walk_at "mm"), E1.rb (p := z3) (by walk_at "mm"), (by first | decide | omega), trivial, fun k2 nk2 => ?_⟩
          obtain ⟨H6, eH_, s6, E2⟩ := stepE E1 nk2 (RB.add (E1.rb (p := kk) (by walk_at "mm")) (E1.rb (p := z3) (by walk_at "mm")))
          rw [eH_]
          clear eH_
          refine ⟨kk, k2, _, _, _, _, rfl, E2.get (by walk_at "mm"), E2.get (by walk_at "mm"), E2.rb (p := kk) (by walk_at "mm"), E2.rb (p := k2) (by walk_at "mm"), (by first | decide | omega), trivial, fun kk2 nkk2 => ?_⟩
          obtain ⟨H7, eH_, s7, E3⟩ := stepE E2 nkk2 (RB.mul (E2.rb (p := kk) (by walk_at "mm")) (E2.rb (p := k2) (by walk_at "mm")))
          rw [eH_]
          clear eH_
          refine ⟨_, rfl, _, rfl, ?_⟩
          refine ⟨(by show 2 ≤ sizeLine; decide), fun na nna => ?_⟩
          obtain ⟨H8, eH_, s8, E4⟩ := litE E3 nna (fq_neg e.a) aB.neg
          rw [eH_]
          clear eH_
          refine ⟨_, rfl, ?_⟩
          refine ⟨(by show 2 ≤ sizeLine; decide), fun m1 nm1 => ?_⟩
          obtain ⟨H9, eH_, s9, E5⟩ := litE E4 nm1 fq_m1 rb_m1
          rw [eH_]
          clear eH_
          have j9 := s04.trans (s5.trans (s6.trans (s7.trans (s8.trans s9))))
          refine ⟨_, rfl, p, _, 0, _, rfl, rfl, (by exact Same.tup (s5.trans (s6.trans (s7.trans (s8.trans s9)))) h1), rfl, ?_⟩
          refine ⟨m1, a, _, _, _, _, rfl, E5.get (by walk_at "mm"), E5.get (by walk_at "mm"), E5.rb (p := m1) (by walk_at "mm"), E5.rb (p := a) (by walk_at "mm"), (by first | decide | omega), trivial, fun nx nnx => ?_⟩
          obtain ⟨Ha, eH_, sa, E6⟩ := stepE E5 nnx (RB.mul (E5.rb (p := m1) (by walk_at "mm")) (E5.rb (p := a) (by walk_at "mm")))
          rw [eH_]
          clear eH_
          refine ⟨_, rfl, ?_⟩
          refine ⟨(by show 2 ≤ sizeLine; decide), fun m2 nm2 => ?_⟩
          obtain ⟨Hb, eH_, sb, E7⟩ := litE E6 nm2 fq_m1 rb_m1
          rw [eH_]
          clear eH_
          refine ⟨_, rfl, o, _, 0, _, rfl, rfl, (by exact Same.tup (s5.trans (s6.trans (s7.trans (s8.trans (s9.trans (sa.trans sb)))))) g4), rfl, ?_⟩
          refine ⟨m2, pu, _, _, _, _, rfl, E7.get (by walk_at "mm"), E7.get (by walk_at "mm"), E7.rb (p := m2) (by walk_at "mm"), E7.rb (p := pu) (by walk_at "mm"), (by first | decide | omega), trivial, fun nu nnu => ?_⟩
          obtain ⟨Hc, eH_, sc, E8⟩ := stepE E7 nnu (RB.mul (E7.rb (p := m2) (by walk_at "mm")) (E7.rb (p := pu) (by walk_at "mm")))
          rw [eH_]
          clear eH_
          refine ⟨(by show 4 ≤ sizeLine; decide), fun lx nlx => ?_⟩
          have E8_l := E8.same (Same.new (o := .lst [.ref kk2, .ref na, .ref nx, .ref nu]) nlx)
          refine ⟨lx, _, rfl, lst_of upd_same, (FrE.add (FrE.add (FrE.add (FrE.add FrE.nil (E8_l.get (p := nu) (by walk_at "mm")) (E8_l.rb (p := nu) (by walk_at "mm"))) (E8_l.get (p := nx) (by walk_at "mm")) (E8_l.rb (p := nx) (by walk_at "mm"))) (E8_l.get (p := na) (by walk_at "mm")) (E8_l.rb (p := na) (by walk_at "mm"))) (E8_l.get (p := kk2) (by walk_at "mm")) (E8_l.rb (p := kk2) (by walk_at "mm"))), (by simp only [List.map_cons, List.map_nil, List.sum_cons, List.sum_nil]; omega), fun Hd X sd_0 nX hX => ?_⟩
          have sd := (Same.new (o := .lst [.ref kk2, .ref na, .ref nx, .ref nu]) nlx).trans sd_0
          replace hX : Hd X = some (.tup (fq (px e (slo e x y u v) x u))) := by
            rw [hX]
            congr 3
            simp only [List.foldl]
            first | walk_at "tv" | grind
          have E9 := (E8_l.same sd_0).add (tup_of hX) farB
          first | refine sigN [some (.ref f), some (.ref p), some (.ref o), some (.ref t), some (.int (0)), some (.int (e.a)), some (V.str "line"), some (.ref kk), some (.ref hh), some (.ref X)] (by rfl) ?_ | refine sig [some (.ref f), some (.ref p), some (.ref o), some (.ref t), some (.int (0)), some (.int (e.a)), some (V.str "line"), some (.ref kk), some (.ref hh), some (.ref X)] (by rfl) ?_
          refine ⟨_, rfl, _, rfl, _, rfl, _, rfl, ?_⟩
          refine ⟨kk, X, _, _, _, _, rfl, E9.get (by walk_at "mm"), E9.get (by walk_at "mm"), E9.rb (p := kk) (by walk_at "mm"), E9.rb (p := X) (by walk_at "mm"), (by first | decide | omega), trivial, fun kX nkX => ?_⟩
          obtain ⟨He, eH_, se, E10⟩ := stepE E9 nkX (RB.mul (E9.rb (p := kk) (by walk_at "mm")) (E9.rb (p := X) (by walk_at "mm")))
          rw [eH_]
          clear eH_
          refine ⟨_, rfl, ?_⟩
          refine ⟨kX, hh, _, _, _, _, rfl, E10.get (by walk_at "mm"), E10.get (by walk_at "mm"), E10.rb (p := kX) (by walk_at "mm"), E10.rb (p := hh) (by walk_at "mm"), (by first | decide | omega), trivial, fun yy nyy => ?_⟩
          obtain ⟨Hf, eH_, sf, E11⟩ := stepE E10 nyy (RB.add (E10.rb (p := kX) (by walk_at "mm")) (E10.rb (p := hh) (by walk_at "mm")))
          rw [eH_]
          clear eH_
          refine ⟨(by show 2 ≤ sizeLine; decide), fun w2 nw2 => ?_⟩
          have sg := Same.new (H := Hf) (p := w2) (o := .tup [.ref X, .ref yy]) nw2
          have gw2 : upd Hf w2 (.tup [.ref X, .ref yy]) w2 = some (.tup [.ref X, .ref yy]) := upd_same
          generalize upd Hf w2 (.tup [.ref X, .ref yy]) = Hg at sg gw2 ⊢
          have E12 := E11.same sg
          have s0g := j9.trans (sa.trans (sb.trans (sc.trans (sd.trans (se.trans (sf.trans sg))))))
          have eY : slo e x y u v * px e (slo e x y u v) x u + (y - slo e x y u v * x) = y + slo e x y u v * (px e (slo e x y u v) x u - x) := by
            generalize slo e x y u v = kq
            generalize px e kq x u = xq
            grind
          have YB : RB (2 * (2 * h + 2 * j + 2 * 15 + 6) + 15) (-(y + slo e x y u v * (px e (slo e x y u v) x u - x))) := y_RB (g := 15) onT farB hg
          have YB2 : RB (2 * (2 * h + 2 * j + 2 * 15 + 6) + 15) (y + slo e x y u v * (px e (slo e x y u v) x u - x)) := by
            have := YB.neg
            rwa [Rat.neg_neg] at this
          refine ⟨f, w2, e, some (px e (slo e x y u v) x u, y + slo e x y u v * (px e (slo e x y u v) x u - x)), rfl, hf.same s0g, ⟨X, yy, tup_of gw2, E12.get (p := X) (by walk_at "mm"), sq_eq (E12.get (p := yy) (by walk_at "mm")) eY⟩, ⟨farB.up (by omega), YB2.up (by omega)⟩, fun r H' s' hr => ?_⟩
          exact q r _ (s0g.trans s') hr
end
end K55
set_option Elab.async false
set_option linter.all false
set_option maxRecDepth 100000
set_option maxHeartbeats 4000000
namespace K55
open PySem PySem.Spec PyProof.Rows L2 Gd QM EcM EcP
local macro_rules | `(tactic| walk_at "mm") => `(tactic| (repeat (first | exact List.mem_cons_self | apply List.mem_cons_of_mem)))
/-- what is asked -/
inductive Qn where
  | tri (n : Int)
  | con (m n : Int)
  | cub (n : Int)
def Qn.vs : Qn → List V
  | .tri n => [.str "triangle", .int n]
  | .con m n => [.str "concord", .int m, .int n]
  | .cub n => [.str "cubes", .int n]
def Qn.e : Qn → Ec
  | .tri n => ⟨0, -n * n, 0⟩
  | .con m n => ⟨m + n, m * n, 0⟩
  | .cub n => ⟨0, 0, -432 * n * n⟩
/-- numbers as small as they are drawn -/
def Qn.Bd : Qn → Prop
  | .tri n => B 7 n
  | .con m n => B 8 m ∧ B 8 n
  | .cub n => B 3 n
def cpt (n : Int) (x y : Rat) : Rat × Rat := (((12 * n : Int) : Rat) / (x + y), ((36 * n : Int) : Rat) * (x - y) / (x + y))
def pnt : Qn → List Rat → Pt
  | .tri n, [a, b, c] => some (tpt n (a, b, c))
  | .con _ _, [t, u, v] => some (t * t, t * (u * v))
  | .cub n, [x, y] => some (cpt n x y)
  | _, _ => none
def SolT (K : PySem.W.Frag) (H : Hp) (p : Addr) : List Rat → Prop
  | [a, b] => ∃ pa pb, SqT K H p [.ref pa, .ref pb] ∧ SqT K H pa (fq a) ∧ SqT K H pb (fq b)
  | [a, b, c] => TrT K H p (a, b, c)
  | _ => False
theorem SolT.same {K : PySem.W.Frag} {H H' : Hp} {p : Addr} {s : List Rat} (h : SolT K H p s) (k : Same H H') : SolT K H' p s := by
  match s, h with
  | [a, b], ⟨pa, pb, h1, h2, h3⟩ => exact ⟨pa, pb, Same.tup k h1, Same.tup k h2, Same.tup k h3⟩
  | [a, b, c], h => exact TrT.same h k
def SolO (K : PySem.W.Frag) (H : Hp) (v : V) : Option (List Rat) → Prop
  | none => v = .non
  | some s => ∃ p, v = .ref p ∧ SolT K H p s
/-- solutions whose points may be asked for -/
def Cal : Qn → List Rat → Prop
  | .tri _, [a, b, c] => RB 400 a ∧ RB 400 b ∧ RB 400 c ∧ b ≠ 0
  | .con _ _, [t, u, v] => RB 900 t ∧ RB 900 u ∧ RB 900 v
  | .cub _, [x, y] => RB 10 x ∧ RB 10 y ∧ x + y ≠ 0
  | _, _ => False
/-- points whose solution may be asked for -/
def Tab : Qn → Pt → Prop
  | .tri _, S => TB S
  | .con _ _, S => HB 3800 S
  | .cub _, none => True
  | .cub _, some (x, y) => RB 100 x ∧ RB 100 y ∧ x ≠ 0
def l3 (c : C3) : List Rat := [c.1, c.2.1, c.2.2]
def cso (n : Int) (x y : Rat) : List Rat := [(((36 * n : Int) : Rat) + y) / (6 * x), (((36 * n : Int) : Rat) - y) / (6 * x)]
def Told : Qn → Pt → Option (List Rat) → Prop
  | .tri n, S, o => o = (told n S).map l3
  | .con m n, S, o => ∃ o', Con m n S o' ∧ o = o'.map l3
  | .cub _, none, o => o = none
  | .cub n, some (x, y), o => o = some (cso n x y)
theorem Told.uniq {q : Qn} {S : Pt} {o o2 : Option (List Rat)} (h : Told q S o) (k : Told q S o2) : o = o2 := by
  match q, S, h, k with
  | .tri n, S, h, k => exact Eq.trans h (Eq.symm k)
  | .con m n, S, ⟨a, h1, h2⟩, ⟨b, k1, k2⟩ => rw [h2, k2, h1.uniq k1]
  | .cub n, none, h, k => exact Eq.trans h (Eq.symm k)
  | .cub n, some (x, y), h, k => exact Eq.trans h (Eq.symm k)
theorem tro_sol {K : PySem.W.Frag} {H : Hp} {v : V} {o : Option C3} (h : TrO K H v o) : SolO K H v (o.map l3) := by
  match o, h with
  | none, h => exact h
  | some c, ⟨p, h1, h2⟩ => exact ⟨p, h1, h2⟩
theorem con_ex (m n : Int) (S : Pt) : ∃ o, Con m n S o := by
  classical
  have sq : ∀ a : Rat, ∃ o, SqQ a o := fun a => by
    by_cases h : ∃ r : Rat, 0 ≤ r ∧ r * r = a
    · obtain ⟨r, h1, h2⟩ := h
      exact ⟨some r, h1, h2⟩
    · refine ⟨none, fun r hr => h ?_⟩
      rcases (show 0 ≤ r ∨ 0 ≤ -r by grind) with z | z
      · exact ⟨r, z, hr⟩
      · exact ⟨-r, z, by rw [← hr]; grind⟩
  match S with
  | none => exact ⟨none, rfl⟩
  | some (x, y) =>
    by_cases h : x = 0
    · exact ⟨none, .inl ⟨h, rfl⟩⟩
    · obtain ⟨a, ha⟩ := sq x
      obtain ⟨b, hb⟩ := sq (x + (m : Rat))
      obtain ⟨c, hc⟩ := sq (x + (n : Rat))
      exact ⟨_, .inr ⟨h, a, b, c, ha, hb, hc, rfl⟩⟩
theorem told_ex (q : Qn) (S : Pt) : ∃ o, Told q S o := by
  match q, S with
  | .tri n, S => exact ⟨_, rfl⟩
  | .con m n, S =>
    obtain ⟨o, h⟩ := con_ex m n S
    exact ⟨_, o, h, rfl⟩
  | .cub n, none => exact ⟨_, rfl⟩
  | .cub n, some (x, y) => exact ⟨_, rfl⟩
theorem cal_tri {n : Int} {s : List Rat} (h : Cal (.tri n) s) : ∃ a b c, s = [a, b, c] ∧ RB 400 a ∧ RB 400 b ∧ RB 400 c ∧ b ≠ 0 := by
  match s, h with
  | [a, b, c], h => exact ⟨a, b, c, rfl, h⟩
theorem cal_con {m n : Int} {s : List Rat} (h : Cal (.con m n) s) : ∃ a b c, s = [a, b, c] ∧ RB 900 a ∧ RB 900 b ∧ RB 900 c := by
  match s, h with
  | [a, b, c], h => exact ⟨a, b, c, rfl, h⟩
theorem cal_cub {n : Int} {s : List Rat} (h : Cal (.cub n) s) : ∃ a b, s = [a, b] ∧ RB 10 a ∧ RB 10 b ∧ a + b ≠ 0 := by
  match s, h with
  | [a, b], h => exact ⟨a, b, rfl, h⟩
theorem tri_not : ¬ ("concord" : Str) = "triangle" := by decide +kernel
theorem cub_not : ¬ ("cubes" : Str) = "triangle" := by decide +kernel
theorem cub_not2 : ¬ ("cubes" : Str) = "concord" := by decide +kernel
section
variable {P : Program} {w : World} {K : PySem.W.Frag} {mg : Str → Option Value} {base : Heap}
def sp_cubes_curve (K : PySem.W.Frag) : Sp := fun vs H Q _ => ∃ n : Int, vs = [.int n] ∧ B 100 n ∧ ∀ t, H t = none → Q (.ref t) (upd H t (.tup [.int 0, .int 0, .int (-432 * n * n)]))
abbrev s_cubes_curve : Stmt := topS 30
theorem sc_cubes_curve : FnScope ["n"] ["n"] (defScope s_cubes_curve) := ⟨rfl, rfl, rfl, by decide +kernel, rfl, by decide +kernel, by decide +kernel⟩
theorem k_cubes_curve (T : Tx K mg) (D : Df K mg "cubes_curve" s_cubes_curve ["n"])  : Kl P w K mg base 1 "cubes_curve" (sp_cubes_curve K) := by
  have nd := sc_cubes_curve.nd
  refine Kl.by_body D sc_cubes_curve (fun vs H Q E h => ?_) (fun f cdv A outer s H vs Q E hr h => ?_)
  · obtain ⟨_, rfl, _⟩ := h
    rfl
  · obtain ⟨n, rfl, hn, q⟩ := h
    have hu1 := hu_of hr
    refine ⟨_, (pss_one (ps_ret (pe_tup (pa_cons pe_int (pa_cons pe_int (pa_cons (pe_op op_mulW (pe_op op_mul (pe_un un_neg pe_int) (pv 0)) (pv 0)) pa_nil)))))), ?_⟩
    refine ⟨_, rfl, _, rfl, _, _, rfl, rfl, (Or.inl ⟨by decide, by decide⟩), _, rfl, _, _, rfl, rfl, (((B.lit (n := 9) (x := 432) (by decide)).neg.mul hn).mulW hn (by decide)), (by show 3 ≤ sizeLine; decide), fun t nt => q t nt⟩
def sp_cubes_point (K : PySem.W.Frag) : Sp := fun vs H Q _ => ∃ (n : Int) (p : Addr) (x y : Rat), vs = [.int n, .ref p] ∧ B 8 n ∧ SolT K H p [x, y] ∧ RB 10 x ∧ RB 10 y ∧ x + y ≠ 0 ∧ ∀ t H', Same H H' → PtT K H' t (some (cpt n x y)) → Q (.ref t) H'
abbrev s_cubes_point : Stmt := topS 32
theorem sc_cubes_point : FnScope ["n", "pair", "x", "y", "both"] ["n", "pair"] (defScope s_cubes_point) := ⟨rfl, rfl, rfl, by decide +kernel, rfl, by decide +kernel, by decide +kernel⟩
theorem k_cubes_point (T : Tx K mg) (D : Df K mg "cubes_point" s_cubes_point ["n", "pair"]) (c_plus : Kl P w K mg base 2 "plus" (sp_plus K)) (c_over : Kl P w K mg base 2 "over" (sp_over K)) (c_times : Kl P w K mg base 2 "times" (sp_times K)) (c_less : Kl P w K mg base 2 "less" (sp_less K)) : Kl P w K mg base 3 "cubes_point" (sp_cubes_point K) := by
  have nd := sc_cubes_point.nd
  refine Kl.by_body D sc_cubes_point (fun vs H Q E h => ?_) (fun f cdv A outer s H vs Q E hr h => ?_)
  · obtain ⟨_, _, _, _, rfl, _⟩ := h
    rfl
  · obtain ⟨n, p, x, y, rfl, hn, ⟨a, b, h0, h1, h2⟩, bx, byy, nz, q⟩ := h
    have hu1 := hu_of hr
    refine ⟨_, (pss_cons (ps_asg (pv 1) (pg_tup rfl (pgs_cons (pg_name (i := 2) nd rfl (by first | exact Or.inl rfl | exact Or.inr rfl)) (pgs_cons (pg_name (i := 3) nd rfl (by first | exact Or.inl rfl | exact Or.inr rfl)) pgs_nil))))
      (pss_cons (ps_set (i := 4) nd rfl (by first | exact Or.inl rfl | exact Or.inr rfl) (pe_k c_plus  hr (by decide) (by rfl) (pa_cons (pv 2) (pa_cons (pv 3) pa_nil))))
      (pss_one (ps_ret (pe_tup (pa_cons (pe_k c_over  hr (by decide) (by rfl) (pa_cons (pe_tup (pa_cons (pe_op op_mul pe_int (pv 0)) (pa_cons pe_int pa_nil))) (pa_cons (pv 4) pa_nil))) (pa_cons (pe_k c_over  hr (by decide) (by rfl) (pa_cons (pe_k c_times  hr (by decide) (by rfl) (pa_cons (pe_tup (pa_cons (pe_op op_mul pe_int (pv 0)) (pa_cons pe_int pa_nil))) (pa_cons (pe_k c_less  hr (by decide) (by rfl) (pa_cons (pv 2) (pa_cons (pv 3) pa_nil))) pa_nil))) (pa_cons (pv 4) pa_nil))) pa_nil))))))), ?_⟩
    have n12 : RB 12 ((12 * n : Int) : Rat) := RB.int (((B.lit (n := 4) (x := 12) (by decide)).mul hn).up (by decide)) (by decide)
    have n36 : RB 14 ((36 * n : Int) : Rat) := RB.int (((B.lit (n := 6) (x := 36) (by decide)).mul hn).up (by decide)) (by decide)
    refine ⟨_, rfl, p, _, rfl, h0, rfl, _, _, rfl, _, _, rfl, rfl, ?_⟩
    first | refine sigN [some (.int (n)), some (.ref p), some (.ref a), some (.ref b), none] (by rfl) ?_ | refine sig [some (.int (n)), some (.ref p), some (.ref a), some (.ref b), none] (by rfl) ?_
    have E0 : FrE K H [(a, x, 10), (b, y, 10)] := FrE.add (FrE.add FrE.nil h2 byy) h1 bx
    refine ⟨_, rfl, _, rfl, ?_⟩
    refine ⟨a, b, _, _, _, _, rfl, E0.get (by walk_at "mm"), E0.get (by walk_at "mm"), E0.rb (p := a) (by walk_at "mm"), E0.rb (p := b) (by walk_at "mm"), (by first | decide | omega), trivial, fun both nboth => ?_⟩
    obtain ⟨H1, eH_, s1, E1⟩ := stepE E0 nboth (RB.add (E0.rb (p := a) (by walk_at "mm")) (E0.rb (p := b) (by walk_at "mm")))
    rw [eH_]
    clear eH_
    first | refine sigN [some (.int (n)), some (.ref p), some (.ref a), some (.ref b), some (.ref both)] (by rfl) ?_ | refine sig [some (.int (n)), some (.ref p), some (.ref a), some (.ref b), some (.ref both)] (by rfl) ?_
    refine ⟨_, rfl, _, _, rfl, rfl, Or.inl ⟨by decide, by decide⟩, ?_⟩
    refine ⟨(by show 2 ≤ sizeLine; decide), fun tn ntn => ?_⟩
    obtain ⟨H2, eH_, s2, E2⟩ := litE E1 ntn (fq_int _).symm n12
    rw [eH_]
    clear eH_
    refine ⟨_, rfl, ?_⟩
    refine ⟨tn, both, _, _, _, _, rfl, E2.get (by walk_at "mm"), E2.get (by walk_at "mm"), E2.rb (p := tn) (by walk_at "mm"), E2.rb (p := both) (by walk_at "mm"), (by first | decide | omega), nz, fun xx nxx => ?_⟩
    obtain ⟨H3, eH_, s3, E3⟩ := stepE E2 nxx (RB.div nz (E2.rb (p := tn) (by walk_at "mm")) (E2.rb (p := both) (by walk_at "mm")))
    rw [eH_]
    clear eH_
    refine ⟨_, rfl, _, _, rfl, rfl, Or.inl ⟨by decide, by decide⟩, ?_⟩
    refine ⟨(by show 2 ≤ sizeLine; decide), fun tm ntm => ?_⟩
    obtain ⟨H4, eH_, s4, E4⟩ := litE E3 ntm (fq_int _).symm n36
    rw [eH_]
    clear eH_
    refine ⟨_, rfl, _, rfl, ?_⟩
    refine ⟨a, b, _, _, _, _, rfl, E4.get (by walk_at "mm"), E4.get (by walk_at "mm"), E4.rb (p := a) (by walk_at "mm"), E4.rb (p := b) (by walk_at "mm"), (by first | decide | omega), trivial, fun d nd => ?_⟩
    obtain ⟨H5, eH_, s5, E5⟩ := stepE E4 nd (RB.sub (E4.rb (p := a) (by walk_at "mm")) (E4.rb (p := b) (by walk_at "mm")))
    rw [eH_]
    clear eH_
    refine ⟨tm, d, _, _, _, _, rfl, E5.get (by walk_at "mm"), E5.get (by walk_at "mm"), E5.rb (p := tm) (by walk_at "mm"), E5.rb (p := d) (by walk_at "mm"), (by first | decide | omega), trivial, fun md nmd => ?_⟩
    obtain ⟨H6, eH_, s6, E6⟩ := stepE E5 nmd (RB.mul (E5.rb (p := tm) (by walk_at "mm")) (E5.rb (p := d) (by walk_at "mm")))
    rw [eH_]
    clear eH_
    refine ⟨_, rfl, ?_⟩
    refine ⟨md, both, _, _, _, _, rfl, E6.get (by walk_at "mm"), E6.get (by walk_at "mm"), E6.rb (p := md) (by walk_at "mm"), E6.rb (p := both) (by walk_at "mm"), (by first | decide | omega), nz, fun yy nyy => ?_⟩
    obtain ⟨H7, eH_, s7, E7⟩ := stepE E6 nyy (RB.div nz (E6.rb (p := md) (by walk_at "mm")) (E6.rb (p := both) (by walk_at "mm")))
    rw [eH_]
    clear eH_
    refine ⟨(by show 2 ≤ sizeLine; decide), fun r nr => ?_⟩
    have s8 := Same.new (H := H7) (p := r) (o := .tup [.ref xx, .ref yy]) nr
    have E8 := E7.same s8
    exact q r _ (s1.trans (s2.trans (s3.trans (s4.trans (s5.trans (s6.trans (s7.trans s8))))))) ⟨xx, yy, tup_of upd_same, E8.get (p := xx) (by walk_at "mm"), E8.get (p := yy) (by walk_at "mm")⟩
def sp_cubes_of (K : PySem.W.Frag) : Sp := fun vs H Q _ => ∃ (n : Int) (p : Addr) (S : Pt), vs = [.int n, .ref p] ∧ B 8 n ∧ PtT K H p S ∧ Tab (.cub n) S ∧ ∀ o v H', Told (.cub n) S o → Same H H' → SolO K H' v o → Q v H'
abbrev s_cubes_of : Stmt := topS 31
theorem sc_cubes_of : FnScope ["n", "point", "x", "y", "lower"] ["n", "point"] (defScope s_cubes_of) := ⟨rfl, rfl, rfl, by decide +kernel, rfl, by decide +kernel, by decide +kernel⟩
theorem k_cubes_of (T : Tx K mg) (D : Df K mg "cubes_of" s_cubes_of ["n", "point"]) (c_times : Kl P w K mg base 2 "times" (sp_times K)) (c_over : Kl P w K mg base 2 "over" (sp_over K)) (c_plus : Kl P w K mg base 2 "plus" (sp_plus K)) (c_less : Kl P w K mg base 2 "less" (sp_less K)) : Kl P w K mg base 3 "cubes_of" (sp_cubes_of K) := by
  have nd := sc_cubes_of.nd
  refine Kl.by_body D sc_cubes_of (fun vs H Q E h => ?_) (fun f cdv A outer s H vs Q E hr h => ?_)
  · obtain ⟨_, _, _, rfl, _⟩ := h
    rfl
  · obtain ⟨n, p, S, rfl, hn, hp, hB, q⟩ := h
    have hu1 := hu_of hr
    refine ⟨_, (pss_cons (ps_if (pt_cmpR (op_eqD hr.units) (pv 1) (pe_tup pa_nil) (nomark _)) (pss_one (ps_ret pe_non)) pss_nil)
      (pss_cons (ps_asg (pv 1) (pg_tup rfl (pgs_cons (pg_name (i := 2) nd rfl (by first | exact Or.inl rfl | exact Or.inr rfl)) (pgs_cons (pg_name (i := 3) nd rfl (by first | exact Or.inl rfl | exact Or.inr rfl)) pgs_nil))))
      (pss_cons (ps_set (i := 4) nd rfl (by first | exact Or.inl rfl | exact Or.inr rfl) (pe_k c_times  hr (by decide) (by rfl) (pa_cons (pe_tup (pa_cons pe_int (pa_cons pe_int pa_nil))) (pa_cons (pv 2) pa_nil))))
      (pss_one (ps_ret (pe_tup (pa_cons (pe_k c_over  hr (by decide) (by rfl) (pa_cons (pe_k c_plus  hr (by decide) (by rfl) (pa_cons (pe_tup (pa_cons (pe_op op_mul pe_int (pv 0)) (pa_cons pe_int pa_nil))) (pa_cons (pv 3) pa_nil))) (pa_cons (pv 4) pa_nil))) (pa_cons (pe_k c_over  hr (by decide) (by rfl) (pa_cons (pe_k c_less  hr (by decide) (by rfl) (pa_cons (pe_tup (pa_cons (pe_op op_mul pe_int (pv 0)) (pa_cons pe_int pa_nil))) (pa_cons (pv 3) pa_nil))) (pa_cons (pv 4) pa_nil))) pa_nil)))))))), ?_⟩
    have n36 : RB 14 ((36 * n : Int) : Rat) := RB.int (((B.lit (n := 6) (x := 36) (by decide)).mul hn).up (by decide)) (by decide)
    refine ⟨_, rfl, (by show 0 ≤ sizeLine; decide), fun z nz => ?_⟩
    have s1 := Same.new (H := H) (p := z) (o := .tup []) nz
    have gz : upd H z (.tup []) z = some (.tup []) := upd_same
    generalize upd H z (.tup []) = H1 at s1 gz ⊢
    match S, hp, hB, q with
    | none, hp, hB, q =>
      refine ⟨dP none, .tuple [], dp_pt (hp.same s1), dp0 (tup_of gz), sh_P none, rfl, _, rfl, iteT ?_⟩
      exact q none _ _ rfl s1 rfl
    | some (x, y), ⟨a, b, h1, h2, h3⟩, ⟨bx, byy, x0⟩, q =>
      refine ⟨dP (some (x, y)), .tuple [], dp_pt ⟨a, b, Same.tup s1 h1, Same.tup s1 h2, Same.tup s1 h3⟩, dp0 (tup_of gz), sh_P (some (x, y)), rfl, _, rfl, iteF ?_⟩
      have x6 : 6 * x ≠ 0 := by grind
      refine ⟨_, rfl, p, _, rfl, Same.tup s1 h1, rfl, _, _, rfl, _, _, rfl, rfl, ?_⟩
      first | refine sigN [some (.int (n)), some (.ref p), some (.ref a), some (.ref b), none] (by rfl) ?_ | refine sig [some (.int (n)), some (.ref p), some (.ref a), some (.ref b), none] (by rfl) ?_
      have E0 : FrE K H1 [(a, x, 100), (b, y, 100)] := FrE.add (FrE.add FrE.nil (Same.tup s1 h3) byy) (Same.tup s1 h2) bx
      refine ⟨(by show 2 ≤ sizeLine; decide), fun six nsix => ?_⟩
      obtain ⟨H2, eH_, s2, E1⟩ := litE E0 nsix (show [V.int 6, V.int 1] = fq 6 from rfl) (show RB 3 (6 : Rat) from ⟨by decide, by decide⟩)
      rw [eH_]
      clear eH_
      refine ⟨_, rfl, ?_⟩
      refine ⟨six, a, _, _, _, _, rfl, E1.get (by walk_at "mm"), E1.get (by walk_at "mm"), E1.rb (p := six) (by walk_at "mm"), E1.rb (p := a) (by walk_at "mm"), (by first | decide | omega), trivial, fun low nlow => ?_⟩
      obtain ⟨H3, eH_, s3, E2⟩ := stepE E1 nlow (RB.mul (E1.rb (p := six) (by walk_at "mm")) (E1.rb (p := a) (by walk_at "mm")))
      rw [eH_]
      clear eH_
      first | refine sigN [some (.int (n)), some (.ref p), some (.ref a), some (.ref b), some (.ref low)] (by rfl) ?_ | refine sig [some (.int (n)), some (.ref p), some (.ref a), some (.ref b), some (.ref low)] (by rfl) ?_
      refine ⟨_, rfl, _, _, rfl, rfl, Or.inl ⟨by decide, by decide⟩, ?_⟩
      refine ⟨(by show 2 ≤ sizeLine; decide), fun tn ntn => ?_⟩
      obtain ⟨H4, eH_, s4, E3⟩ := litE E2 ntn (fq_int _).symm n36
      rw [eH_]
      clear eH_
      refine ⟨_, rfl, ?_⟩
      refine ⟨tn, b, _, _, _, _, rfl, E3.get (by walk_at "mm"), E3.get (by walk_at "mm"), E3.rb (p := tn) (by walk_at "mm"), E3.rb (p := b) (by walk_at "mm"), (by first | decide | omega), trivial, fun u1 nu1 => ?_⟩
      obtain ⟨H5, eH_, s5, E4⟩ := stepE E3 nu1 (RB.add (E3.rb (p := tn) (by walk_at "mm")) (E3.rb (p := b) (by walk_at "mm")))
      rw [eH_]
      clear eH_
      refine ⟨_, rfl, ?_⟩
      refine ⟨u1, low, _, _, _, _, rfl, E4.get (by walk_at "mm"), E4.get (by walk_at "mm"), E4.rb (p := u1) (by walk_at "mm"), E4.rb (p := low) (by walk_at "mm"), (by first | decide | omega), x6, fun r1 nr1 => ?_⟩
      obtain ⟨H6, eH_, s6, E5⟩ := stepE E4 nr1 (RB.div x6 (E4.rb (p := u1) (by walk_at "mm")) (E4.rb (p := low) (by walk_at "mm")))
      rw [eH_]
      clear eH_
      refine ⟨_, rfl, _, _, rfl, rfl, Or.inl ⟨by decide, by decide⟩, ?_⟩
      refine ⟨(by show 2 ≤ sizeLine; decide), fun tm ntm => ?_⟩
      obtain ⟨H7, eH_, s7, E6⟩ := litE E5 ntm (fq_int _).symm n36
      rw [eH_]
      clear eH_
      refine ⟨_, rfl, ?_⟩
      refine ⟨tm, b, _, _, _, _, rfl, E6.get (by walk_at "mm"), E6.get (by walk_at "mm"), E6.rb (p := tm) (by walk_at "mm"), E6.rb (p := b) (by walk_at "mm"), (by first | decide | omega), trivial, fun u2 nu2 => ?_⟩
      obtain ⟨H8, eH_, s8, E7⟩ := stepE E6 nu2 (RB.sub (E6.rb (p := tm) (by walk_at "mm")) (E6.rb (p := b) (by walk_at "mm")))
      rw [eH_]
      clear eH_
      refine ⟨_, rfl, ?_⟩
      refine ⟨u2, low, _, _, _, _, rfl, E7.get (by walk_at "mm"), E7.get (by walk_at "mm"), E7.rb (p := u2) (by walk_at "mm"), E7.rb (p := low) (by walk_at "mm"), (by first | decide | omega), x6, fun r2 nr2 => ?_⟩
      obtain ⟨H9, eH_, s9, E8⟩ := stepE E7 nr2 (RB.div x6 (E7.rb (p := u2) (by walk_at "mm")) (E7.rb (p := low) (by walk_at "mm")))
      rw [eH_]
      clear eH_
      refine ⟨(by show 2 ≤ sizeLine; decide), fun r nr => ?_⟩
      have sr := Same.new (H := H9) (p := r) (o := .tup [.ref r1, .ref r2]) nr
      have E9 := E8.same sr
      exact q _ _ _ rfl (s1.trans (s2.trans (s3.trans (s4.trans (s5.trans (s6.trans (s7.trans (s8.trans (s9.trans sr))))))))) ⟨r, rfl, r1, r2, tup_of upd_same, E9.get (p := r1) (by walk_at "mm"), E9.get (p := r2) (by walk_at "mm")⟩
def sp_sum_of (K : PySem.W.Frag) : Sp := fun vs H Q _ => ∃ (qa sp op : Addr) (qn : Qn) (s1 s2 : List Rat) (h j : Nat), vs = [.ref qa, .ref sp, .ref op] ∧ SqT K H qa qn.vs ∧ qn.Bd ∧ SolT K H sp s1 ∧ SolT K H op s2 ∧ Cal qn s1 ∧ Cal qn s2 ∧ qn.e.Bd 15 ∧ On qn.e (pnt qn s1) ∧ On qn.e (pnt qn s2) ∧ HB h (pnt qn s1) ∧ HB j (pnt qn s2) ∧ h + j ≤ 400 ∧ Tab qn (sum qn.e (pnt qn s1) (pnt qn s2)) ∧ ∀ o v H', Told qn (sum qn.e (pnt qn s1) (pnt qn s2)) o → Same H H' → SolO K H' v o → Q v H'
abbrev s_sum_of : Stmt := topS 33
theorem sc_sum_of : FnScope ["question", "solution", "other", "word", "n", "curve", "m"] ["question", "solution", "other"] (defScope s_sum_of) := ⟨rfl, rfl, rfl, by decide +kernel, rfl, by decide +kernel, by decide +kernel⟩
theorem k_sum_of (T : Tx K mg) (D : Df K mg "sum_of" s_sum_of ["question", "solution", "other"]) (c_cubes_curve : Kl P w K mg base 1 "cubes_curve" (sp_cubes_curve K)) (c_cubes_of : Kl P w K mg base 3 "cubes_of" (sp_cubes_of K)) (c_triangle_curve : Kl P w K mg base 1 "triangle_curve" (sp_triangle_curve K)) (c_triangle_of : Kl P w K mg base 3 "triangle_of" (sp_triangle_of K)) (c_concord_curve : Kl P w K mg base 1 "concord_curve" (sp_concord_curve K)) (c_concord_of : Kl P w K mg base 5 "concord_of" (sp_concord_of K)) (c_added : Kl P w K mg base 6 "added" (sp_added K)) (c_cubes_point : Kl P w K mg base 3 "cubes_point" (sp_cubes_point K)) (c_triangle_point : Kl P w K mg base 3 "triangle_point" (sp_triangle_point K)) (c_concord_point : Kl P w K mg base 4 "concord_point" (sp_concord_point K)) : Kl P w K mg base 7 "sum_of" (sp_sum_of K) := by
  have nd := sc_sum_of.nd
  refine Kl.by_body D sc_sum_of (fun vs H Q E h => ?_) (fun f cdv A outer s H vs Q E hr h => ?_)
  · obtain ⟨_, _, _, _, _, _, _, _, rfl, _⟩ := h
    rfl
  · obtain ⟨qa, sp, op, qn, s1, s2, h, j, rfl, hq, hb, hs1, hs2, c1, c2, hg, on1, on2, B1, B2, hhj, ht, q⟩ := h
    have hu1 := hu_of hr
    refine ⟨_, (pss_cons (ps_par (i := 3) (j := 4) (by rfl) nd rfl rfl (by decide) rfl rfl (pa_cons (pe_ix ix_tup (pv 0) pe_int (fun _ _ => rfl)) (pa_cons (pe_ix ix_tup (pv 0) (pe_un un_neg pe_int) (fun _ _ => rfl)) pa_nil)) (by rfl))
      (pss_cons (ps_if (pt_cmpR op_eq (pv 3) pe_str (nomark _)) (pss_cons (ps_set (i := 5) nd rfl (by first | exact Or.inl rfl | exact Or.inr rfl) (pe_k c_triangle_curve  hr (by decide) (by rfl) (pa_cons (pv 4) pa_nil)))
      (pss_one (ps_ret (pe_k c_triangle_of  hr (by decide) (by rfl) (pa_cons (pv 4) (pa_cons (pe_k c_added  hr (by decide) (by rfl) (pa_cons (pv 5) (pa_cons (pe_k c_triangle_point  hr (by decide) (by rfl) (pa_cons (pv 4) (pa_cons (pv 1) pa_nil))) (pa_cons (pe_k c_triangle_point  hr (by decide) (by rfl) (pa_cons (pv 4) (pa_cons (pv 2) pa_nil))) pa_nil)))) pa_nil)))))) pss_nil)
      (pss_cons (ps_if (pt_cmpR op_eq (pv 3) pe_str (nomark _)) (pss_cons (ps_set (i := 6) nd rfl (by first | exact Or.inl rfl | exact Or.inr rfl) (pe_ix ix_tup (pv 0) pe_int (fun _ _ => rfl)))
      (pss_cons (ps_set (i := 5) nd rfl (by first | exact Or.inl rfl | exact Or.inr rfl) (pe_k c_concord_curve  hr (by decide) (by rfl) (pa_cons (pv 6) (pa_cons (pv 4) pa_nil))))
      (pss_one (ps_ret (pe_k c_concord_of  hr (by decide) (by rfl) (pa_cons (pv 6) (pa_cons (pv 4) (pa_cons (pe_k c_added  hr (by decide) (by rfl) (pa_cons (pv 5) (pa_cons (pe_k c_concord_point  hr (by decide) (by rfl) (pa_cons (pv 6) (pa_cons (pv 4) (pa_cons (pv 1) pa_nil)))) (pa_cons (pe_k c_concord_point  hr (by decide) (by rfl) (pa_cons (pv 6) (pa_cons (pv 4) (pa_cons (pv 2) pa_nil)))) pa_nil)))) pa_nil)))))))) pss_nil)
      (pss_cons (ps_set (i := 5) nd rfl (by first | exact Or.inl rfl | exact Or.inr rfl) (pe_k c_cubes_curve  hr (by decide) (by rfl) (pa_cons (pv 4) pa_nil)))
      (pss_one (ps_ret (pe_k c_cubes_of  hr (by decide) (by rfl) (pa_cons (pv 4) (pa_cons (pe_k c_added  hr (by decide) (by rfl) (pa_cons (pv 5) (pa_cons (pe_k c_cubes_point  hr (by decide) (by rfl) (pa_cons (pv 4) (pa_cons (pv 1) pa_nil))) (pa_cons (pe_k c_cubes_point  hr (by decide) (by rfl) (pa_cons (pv 4) (pa_cons (pv 2) pa_nil))) pa_nil)))) pa_nil))))))))), ?_⟩
    obtain ⟨S1, e1⟩ : ∃ S, pnt qn s1 = S := ⟨_, rfl⟩
    obtain ⟨S2, e2⟩ : ∃ S, pnt qn s2 = S := ⟨_, rfl⟩
    rw [e1] at on1 B1 ht q
    rw [e2] at on2 B2 ht q
    obtain ⟨e, ee⟩ : ∃ e, qn.e = e := ⟨_, rfl⟩
    rw [ee] at hg on1 on2 ht q
    obtain ⟨R, eR⟩ : ∃ R, sum e S1 S2 = R := ⟨_, rfl⟩
    rw [eR] at ht q
    cases qn with
    | tri n =>
      obtain ⟨a1, a2, a3, rfl, c11, c12, c13, c14⟩ := cal_tri c1
      obtain ⟨b1, b2, b3, rfl, c21, c22, c23, c24⟩ := cal_tri c2
      replace hs1 : TrT K H sp (a1, a2, a3) := hs1
      replace hs2 : TrT K H op (b1, b2, b3) := hs2
      have hn8 : B 8 n := B.up (show B 7 n from hb) (by decide)
      replace hq : SqT K H qa [.str "triangle", .int n] := hq
      refine ⟨_, rfl, qa, _, 0, _, rfl, rfl, hq, rfl, _, rfl, _, rfl, qa, _, -1, .int n, rfl, rfl, hq, rfl, _, _, rfl, ?_⟩
      first | refine sigN [some (.ref qa), some (.ref sp), some (.ref op), some (V.str "triangle"), some (.int (n)), none, none] (by rfl) ?_ | refine sig [some (.ref qa), some (.ref sp), some (.ref op), some (V.str "triangle"), some (.int (n)), none, none] (by rfl) ?_
      refine ⟨_, rfl, rfl, _, rfl, iteY (by simp) ?_⟩
      refine ⟨_, rfl, n, rfl, hn8.up (by decide), fun t nt => ?_⟩
      have i1 := Same.new (H := H) (p := t) (o := .tup [.int 0, .int (-n * n), .int 0]) nt
      have gt : upd H t (.tup [.int 0, .int (-n * n), .int 0]) t = some (.tup [.int 0, .int (-n * n), .int 0]) := upd_same
      generalize upd H t (.tup [.int 0, .int (-n * n), .int 0]) = H1 at i1 gt ⊢
      first | refine sigN [some (.ref qa), some (.ref sp), some (.ref op), some (V.str "triangle"), some (.int (n)), some (.ref t), none] (by rfl) ?_ | refine sig [some (.ref qa), some (.ref sp), some (.ref op), some (V.str "triangle"), some (.int (n)), some (.ref t), none] (by rfl) ?_
      have ht1 : CurT K H1 t e := by
        rw [← ee]
        exact tup_of gt
      clear gt
      refine ⟨_, rfl, _, rfl, _, rfl, _, rfl, n, sp, (a1, a2, a3), rfl, hn8, TrT.same hs1 i1, c11, c12, c13, c14, fun p1 H2 i2 hp1 => ?_⟩
      rw [show some (tpt n (a1, a2, a3)) = S1 from e1] at hp1
      refine ⟨_, rfl, _, rfl, n, op, (b1, b2, b3), rfl, hn8, TrT.same hs2 (i1.trans i2), c21, c22, c23, c24, fun p2 H3 i3 hp2 => ?_⟩
      rw [show some (tpt n (b1, b2, b3)) = S2 from e2] at hp2
      refine ⟨t, p1, p2, e, S1, S2, h, j, rfl, ht1.same (i2.trans i3), hg, hp1.same i3, hp2, on1, on2, B1, B2, hhj, fun r H4 i4 hr => ?_⟩
      rw [eR] at hr
      refine ⟨n, r, R, rfl, hn8, hr, ht, fun v H5 i5 hv => ?_⟩
      exact q ((told n R).map l3) v H5 rfl (i1.trans (i2.trans (i3.trans (i4.trans i5)))) (tro_sol hv)
    | con m n =>
      obtain ⟨a1, a2, a3, rfl, c11, c12, c13⟩ := cal_con c1
      obtain ⟨b1, b2, b3, rfl, c21, c22, c23⟩ := cal_con c2
      replace hs1 : TrT K H sp (a1, a2, a3) := hs1
      replace hs2 : TrT K H op (b1, b2, b3) := hs2
      have hm8 : B 8 m := hb.1
      have hn8 : B 8 n := hb.2
      replace hq : SqT K H qa [.str "concord", .int m, .int n] := hq
      refine ⟨_, rfl, qa, _, 0, _, rfl, rfl, hq, rfl, _, rfl, _, rfl, qa, _, -1, .int n, rfl, rfl, hq, rfl, _, _, rfl, ?_⟩
      first | refine sigN [some (.ref qa), some (.ref sp), some (.ref op), some (V.str "concord"), some (.int (n)), none, none] (by rfl) ?_ | refine sig [some (.ref qa), some (.ref sp), some (.ref op), some (V.str "concord"), some (.int (n)), none, none] (by rfl) ?_
      refine ⟨_, rfl, rfl, _, rfl, iteN (by decide +kernel) ?_⟩
      refine ⟨_, rfl, rfl, _, rfl, iteY (by simp) ?_⟩
      refine ⟨_, rfl, qa, _, 1, .int m, rfl, rfl, hq, rfl, ?_⟩
      first | refine sigN [some (.ref qa), some (.ref sp), some (.ref op), some (V.str "concord"), some (.int (n)), none, some (.int (m))] (by rfl) ?_ | refine sig [some (.ref qa), some (.ref sp), some (.ref op), some (V.str "concord"), some (.int (n)), none, some (.int (m))] (by rfl) ?_
      refine ⟨_, rfl, _, rfl, m, n, rfl, hm8.up (by decide), hn8.up (by decide), fun t nt => ?_⟩
      have i1 := Same.new (H := H) (p := t) (o := .tup [.int (m + n), .int (m * n), .int 0]) nt
      have gt : upd H t (.tup [.int (m + n), .int (m * n), .int 0]) t = some (.tup [.int (m + n), .int (m * n), .int 0]) := upd_same
      generalize upd H t (.tup [.int (m + n), .int (m * n), .int 0]) = H1 at i1 gt ⊢
      first | refine sigN [some (.ref qa), some (.ref sp), some (.ref op), some (V.str "concord"), some (.int (n)), some (.ref t), some (.int (m))] (by rfl) ?_ | refine sig [some (.ref qa), some (.ref sp), some (.ref op), some (V.str "concord"), some (.int (n)), some (.ref t), some (.int (m))] (by rfl) ?_
      have ht1 : CurT K H1 t e := by
        rw [← ee]
        exact tup_of gt
      clear gt
      refine ⟨_, rfl, _, rfl, _, rfl, _, rfl, _, rfl, _, rfl, m, n, sp, (a1, a2, a3), rfl, TrT.same hs1 i1, c11, c12, c13, fun p1 H2 i2 hp1 => ?_⟩
      rw [show some (a1 * a1, a1 * (a2 * a3)) = S1 from e1] at hp1
      refine ⟨_, rfl, _, rfl, _, rfl, m, n, op, (b1, b2, b3), rfl, TrT.same hs2 (i1.trans i2), c21, c22, c23, fun p2 H3 i3 hp2 => ?_⟩
      rw [show some (b1 * b1, b1 * (b2 * b3)) = S2 from e2] at hp2
      refine ⟨t, p1, p2, e, S1, S2, h, j, rfl, ht1.same (i2.trans i3), hg, hp1.same i3, hp2, on1, on2, B1, B2, hhj, fun r H4 i4 hr => ?_⟩
      rw [eR] at hr
      refine ⟨m, n, r, R, rfl, hm8.up (by decide), hn8.up (by decide), hr, ht, fun o v H5 ho i5 hv => ?_⟩
      exact q (o.map l3) v H5 ⟨o, ho, rfl⟩ (i1.trans (i2.trans (i3.trans (i4.trans i5)))) (tro_sol hv)
    | cub n =>
      obtain ⟨a1, a2, rfl, c11, c12, c13⟩ := cal_cub c1
      obtain ⟨b1, b2, rfl, c21, c22, c23⟩ := cal_cub c2
      have hn8 : B 8 n := B.up (show B 3 n from hb) (by decide)
      replace hq : SqT K H qa [.str "cubes", .int n] := hq
      refine ⟨_, rfl, qa, _, 0, _, rfl, rfl, hq, rfl, _, rfl, _, rfl, qa, _, -1, .int n, rfl, rfl, hq, rfl, _, _, rfl, ?_⟩
      first | refine sigN [some (.ref qa), some (.ref sp), some (.ref op), some (V.str "cubes"), some (.int (n)), none, none] (by rfl) ?_ | refine sig [some (.ref qa), some (.ref sp), some (.ref op), some (V.str "cubes"), some (.int (n)), none, none] (by rfl) ?_
      refine ⟨_, rfl, rfl, _, rfl, iteN (by decide +kernel) ?_⟩
      refine ⟨_, rfl, rfl, _, rfl, iteN (by decide +kernel) ?_⟩
      refine ⟨_, rfl, n, rfl, hn8.up (by decide), fun t nt => ?_⟩
      have i1 := Same.new (H := H) (p := t) (o := .tup [.int 0, .int 0, .int (-432 * n * n)]) nt
      have gt : upd H t (.tup [.int 0, .int 0, .int (-432 * n * n)]) t = some (.tup [.int 0, .int 0, .int (-432 * n * n)]) := upd_same
      generalize upd H t (.tup [.int 0, .int 0, .int (-432 * n * n)]) = H1 at i1 gt ⊢
      first | refine sigN [some (.ref qa), some (.ref sp), some (.ref op), some (V.str "cubes"), some (.int (n)), some (.ref t), none] (by rfl) ?_ | refine sig [some (.ref qa), some (.ref sp), some (.ref op), some (V.str "cubes"), some (.int (n)), some (.ref t), none] (by rfl) ?_
      have ht1 : CurT K H1 t e := by
        rw [← ee]
        exact tup_of gt
      clear gt
      refine ⟨_, rfl, _, rfl, _, rfl, _, rfl, n, sp, a1, a2, rfl, hn8, hs1.same i1, c11, c12, c13, fun p1 H2 i2 hp1 => ?_⟩
      rw [show some (cpt n a1 a2) = S1 from e1] at hp1
      refine ⟨_, rfl, _, rfl, n, op, b1, b2, rfl, hn8, hs2.same (i1.trans i2), c21, c22, c23, fun p2 H3 i3 hp2 => ?_⟩
      rw [show some (cpt n b1 b2) = S2 from e2] at hp2
      refine ⟨t, p1, p2, e, S1, S2, h, j, rfl, ht1.same (i2.trans i3), hg, hp1.same i3, hp2, on1, on2, B1, B2, hhj, fun r H4 i4 hr => ?_⟩
      rw [eR] at hr
      refine ⟨n, r, R, rfl, hn8, hr, ht, fun o v H5 ho i5 hv => ?_⟩
      exact q o v H5 ho (i1.trans (i2.trans (i3.trans (i4.trans i5)))) hv
end
end K55
set_option Elab.async false
set_option linter.all false
set_option maxRecDepth 100000
set_option maxHeartbeats 4000000
namespace K55
open PySem PySem.Spec PyProof.Rows L2 Gd QM EcM EcP
/-! ### what is drawn -/
/-- the ratio that names a triangle's point, made of small numbers -/
def TZ (k : Nat) (c : C3) : Prop := ∃ T W : Int, W ≠ 0 ∧ (c.1 + c.2.2) * (W : Rat) = c.2.1 * (T : Rat) ∧ Z k T ∧ Z k W
structure Dt (n : Int) (c : C3) : Prop where
  t : Tri n c
  n1 : n ≤ 100
  b1 : RB 11 c.1
  b2 : RB 11 c.2.1
  b3 : RB 11 c.2.2
  x : TZ 5 c
theorem one_sq {k : Int} (h : k = 1 ∨ k = -1) : (k : Rat) * k = 1 := by
  rcases h with rfl | rfl <;> decide +kernel
theorem ab_one {k x : Int} (h : k = 1 ∨ k = -1) : (k * x).natAbs = x.natAbs := by
  rcases h with rfl | rfl <;> omega
theorem dt_of {n s p q one two : Int} (n0 : 0 < n) (n1 : n ≤ 100) (s0 : 0 < s) (s1 : s < 1000) (q0 : 1 ≤ q) (q1 : q ≤ 8) (p0 : q < p) (p1 : p ≤ 16) (h1 : one = 1 ∨ one = -1) (h2 : two = 1 ∨ two = -1) (e : p * q * (p * p - q * q) = n * (s * s)) :
    Dt n (Rat.divInt (one * (p * p - q * q)) s, Rat.divInt (one * 2 * p * q) s, Rat.divInt (two * (p * p + q * q)) s) ∧ Dt n (Rat.divInt (one * 2 * p * q) s, Rat.divInt (one * (p * p - q * q)) s, Rat.divInt (two * (p * p + q * q)) s) := by
  have sz : s ≠ 0 := by omega
  have hs : (s : Rat) ≠ 0 := fun z => sz (by exact_mod_cast z)
  have e' : (p : Rat) * q * ((p : Rat) * p - (q : Rat) * q) = (n : Rat) * ((s : Rat) * s) := by exact_mod_cast e
  have da := div_is hs (show Rat.divInt (one * (p * p - q * q)) s = ((one * (p * p - q * q) : Int) : Rat) / (s : Rat) from Rat.divInt_eq_div _ _)
  have db := div_is hs (show Rat.divInt (one * 2 * p * q) s = ((one * 2 * p * q : Int) : Rat) / (s : Rat) from Rat.divInt_eq_div _ _)
  have dc := div_is hs (show Rat.divInt (two * (p * p + q * q)) s = ((two * (p * p + q * q) : Int) : Rat) / (s : Rat) from Rat.divInt_eq_div _ _)
  have pq : p * p ≤ 16 * 16 := Int.mul_le_mul p1 p1 (by omega) (by decide)
  have qq : q * q ≤ 8 * 8 := Int.mul_le_mul q1 q1 (by omega) (by decide)
  have pqq : p * q ≤ 16 * 8 := Int.mul_le_mul p1 q1 (by omega) (by decide)
  have z1 := sq0 p
  have z2 := sq0 q
  have z3 : 0 ≤ p * q := Int.mul_nonneg (by omega) (by omega)
  have r1 : RB 11 (Rat.divInt (one * (p * p - q * q)) s) := RB.of sz (by rw [ab_one h1]; omega) (by omega)
  have r2 : RB 11 (Rat.divInt (one * 2 * p * q) s) := RB.of sz (by rw [show one * 2 * p * q = one * (2 * (p * q)) by grind, ab_one h1]; omega) (by omega)
  have r3 : RB 11 (Rat.divInt (two * (p * p + q * q)) s) := RB.of sz (by rw [ab_one h2]; omega) (by omega)
  obtain ⟨a, ha⟩ : ∃ a, Rat.divInt (one * (p * p - q * q)) s = a := ⟨_, rfl⟩
  obtain ⟨b, hb⟩ : ∃ a, Rat.divInt (one * 2 * p * q) s = a := ⟨_, rfl⟩
  obtain ⟨c, hc⟩ : ∃ a, Rat.divInt (two * (p * p + q * q)) s = a := ⟨_, rfl⟩
  rw [ha] at da r1 ⊢
  rw [hb] at db r2 ⊢
  rw [hc] at dc r3 ⊢
  push_cast at da db dc
  have o1 := one_sq h1
  have o2 := one_sq h2
  have t : Tri n (a, b, c) := by
    refine ⟨n0, ?_, ?_⟩
    · show a * a + b * b = c * c
      apply cancel (qmul_ne hs hs)
      have l : (a * a + b * b) * ((s : Rat) * s) = (a * s) * (a * s) + (b * s) * (b * s) := by grind
      have r : c * c * ((s : Rat) * s) = (c * s) * (c * s) := by grind
      rw [l, r, da, db, dc]
      generalize (one : Rat) = k at *
      generalize (two : Rat) = j at *
      generalize (p : Rat) = p at *
      generalize (q : Rat) = q at *
      have l1 : k * (p * p - q * q) * (k * (p * p - q * q)) + k * 2 * p * q * (k * 2 * p * q) = k * k * ((p * p + q * q) * (p * p + q * q)) := by grind
      have l2 : j * (p * p + q * q) * (j * (p * p + q * q)) = j * j * ((p * p + q * q) * (p * p + q * q)) := by grind
      rw [l1, l2, o1, o2]
    · show a * b = ((2 * n : Int) : Rat)
      rw [two_n]
      apply cancel (qmul_ne hs hs)
      have l : a * b * ((s : Rat) * s) = (a * s) * (b * s) := by grind
      rw [l, da, db]
      generalize (one : Rat) = k at *
      generalize (p : Rat) = p at *
      generalize (q : Rat) = q at *
      have l1 : k * (p * p - q * q) * (k * 2 * p * q) = k * k * (2 * (p * q * (p * p - q * q))) := by grind
      rw [l1, o1, e']
      grind
  have x1 : TZ 5 (a, b, c) := by
    by_cases hh : one = two
    · refine ⟨p, q, by omega, ?_, Z.lit (by omega), Z.lit (by omega)⟩
      show (a + c) * (q : Rat) = b * (p : Rat)
      apply cancel hs
      have l : (a + c) * (q : Rat) * s = (a * s + c * s) * q := by grind
      have r : b * (p : Rat) * s = b * s * p := by grind
      rw [l, r, da, db, dc, hh]
      grind
    · have h3 : (two : Rat) = -(one : Rat) := by
        have : two = -one := by omega
        rw [this]
        exact Rat.intCast_neg _
      refine ⟨-q, p, by omega, ?_, Z.lit (by omega), Z.lit (by omega)⟩
      show (a + c) * (p : Rat) = b * ((-q : Int) : Rat)
      rw [Rat.intCast_neg]
      apply cancel hs
      have l : (a + c) * (p : Rat) * s = (a * s + c * s) * p := by grind
      have r : b * -(q : Rat) * s = b * s * -q := by grind
      rw [l, r, da, db, dc, h3]
      grind
  have x2 : TZ 5 (b, a, c) := by
    by_cases hh : one = two
    · refine ⟨p + q, p - q, by omega, ?_, Z.lit (by omega), Z.lit (by omega)⟩
      show (b + c) * ((p - q : Int) : Rat) = a * ((p + q : Int) : Rat)
      rw [Rat.intCast_sub, Rat.intCast_add]
      apply cancel hs
      have l : (b + c) * ((p : Rat) - q) * s = (b * s + c * s) * (p - q) := by grind
      have r : a * ((p : Rat) + q) * s = a * s * (p + q) := by grind
      rw [l, r, da, db, dc, hh]
      grind
    · have h3 : (two : Rat) = -(one : Rat) := by
        have : two = -one := by omega
        rw [this]
        exact Rat.intCast_neg _
      refine ⟨q - p, p + q, by omega, ?_, Z.lit (by omega), Z.lit (by omega)⟩
      show (b + c) * ((p + q : Int) : Rat) = a * ((q - p : Int) : Rat)
      rw [Rat.intCast_sub, Rat.intCast_add]
      apply cancel hs
      have l : (b + c) * ((p : Rat) + q) * s = (b * s + c * s) * (p + q) := by grind
      have r : a * ((q : Rat) - p) * s = a * s * (q - p) := by grind
      rw [l, r, da, db, dc, h3]
      grind
  exact ⟨⟨t, n1, r1, r2, r3, x1⟩, ⟨t.swap, n1, r2, r1, r3, x2⟩⟩
theorem dt_0 : Dt 6 (Rat.divInt 3 1, Rat.divInt 4 1, Rat.divInt 5 1) := (dt_of (n := 6) (s := 1) (p := 2) (q := 1) (one := 1) (two := 1) (by decide) (by decide) (by decide) (by decide) (by decide) (by decide) (by decide) (by decide) (.inl rfl) (.inl rfl) (by decide)).1
structure Dc (M N : Int) (c : C3) : Prop where
  t0 : c.1 ≠ 0
  eu : c.2.1 * c.2.1 = c.1 * c.1 + (M : Rat)
  ev : c.2.2 * c.2.2 = c.1 * c.1 + (N : Rat)
  ne : M ≠ N
  p : B 14 (M * N)
  bM : B 8 M
  bN : B 8 N
  b1 : RB 4 c.1
  b2 : RB 4 c.2.1
  b3 : RB 4 c.2.2
  w : ∃ t u v : Int, c = ((t : Rat), (u : Rat), (v : Rat)) ∧ Z 4 t ∧ Z 4 u ∧ Z 4 v
theorem dc_of {t u v : Int} (t0 : 1 ≤ t) (t1 : t ≤ 14) (u0 : 0 ≤ u) (u1 : u ≤ 14) (v0 : 0 ≤ v) (v1 : v ≤ 14) (ne : u * u - t * t ≠ v * v - t * t) (hp : ((u * u - t * t) * (v * v - t * t)).natAbs ≤ 10000) : Dc (u * u - t * t) (v * v - t * t) ((t : Rat), (u : Rat), (v : Rat)) := by
  have tt : t * t ≤ 14 * 14 := Int.mul_le_mul t1 t1 (by omega) (by decide)
  have uu : u * u ≤ 14 * 14 := Int.mul_le_mul u1 u1 (by omega) (by decide)
  have vv : v * v ≤ 14 * 14 := Int.mul_le_mul v1 v1 (by omega) (by decide)
  have z1 := sq0 t
  have z2 := sq0 u
  have z3 := sq0 v
  refine ⟨?_, ?_, ?_, ne, by unfold B; omega, by unfold B; omega, by unfold B; omega, RB.int (by omega) (by decide), RB.int (by omega) (by decide), RB.int (by omega) (by decide), t, u, v, rfl, Z.lit (by omega), Z.lit (by omega), Z.lit (by omega)⟩
  · intro z
    replace z : (t : Rat) = 0 := z
    have : t = 0 := by exact_mod_cast z
    omega
  · show (u : Rat) * u = (t : Rat) * t + ((u * u - t * t : Int) : Rat)
    push_cast
    grind
  · show (v : Rat) * v = (t : Rat) * t + ((v * v - t * t : Int) : Rat)
    push_cast
    grind
theorem dc_0 : Dc (-24) 24 (((5 : Int) : Rat), ((1 : Int) : Rat), ((7 : Int) : Rat)) := dc_of (t := 5) (u := 1) (v := 7) (by decide) (by decide) (by decide) (by decide) (by decide) (by decide) (by decide) (by decide)
end K55
set_option Elab.async false
set_option linter.all false
set_option maxRecDepth 100000
set_option maxHeartbeats 4000000
namespace K55
open PySem PySem.Spec PyProof.Rows L2 Gd QM EcM EcP
section
variable {P : Program} {w : World} {K : PySem.W.Frag} {mg : Str → Option Value} {base : Heap}
def sp_law_concord (K : PySem.W.Frag) : Sp := fun vs H Q _ => ∃ (m cl : Addr) (n : Nat), vs = [.ref m] ∧ n ≤ 1000 ∧ MAt H m cl n ∧ ∀ H' t tq tc M N c, But m H H' → MAt H' m cl (n + 180) → SqT K H' t [.ref tq, .ref tc] → SqT K H' tq [.int M, .int N] → TrT K H' tc c → Dc M N c → Q (.ref t) H'
abbrev s__law_concord : Stmt := topS 56
theorem sc__law_concord : FnScope ["m", "lap", "t", "u", "v", "one", "two"] ["m"] (defScope s__law_concord) := ⟨rfl, rfl, rfl, by decide +kernel, rfl, by decide +kernel, by decide +kernel⟩
theorem k_law_concord (T : Tx K mg) (D : Df K mg "_law_concord" s__law_concord ["m"]) (c_law_draw : Kl P w K mg base 1 "_law_draw" (sp_law_draw K)) : Kl P w K mg base 2 "_law_concord" (sp_law_concord K) := by
  have nd := sc__law_concord.nd
  refine Kl.by_body D sc__law_concord (fun vs H Q E h => ?_) (fun f cdv A outer s H vs Q E hr h => ?_)
  · obtain ⟨_, _, _, rfl, _⟩ := h
    rfl
  · obtain ⟨m, cl, n, rfl, hn, hM, q⟩ := h
    have hu1 := hu_of hr
    refine ⟨_, (pss_cons (ps_for PassesOwn.never rfl (pi_range1 (by rfl) T.range (pa_cons pe_int pa_nil)) (pg_name (i := 1) nd rfl (by first | exact Or.inl rfl | exact Or.inr rfl)) (pss_cons (ps_par3 (i := 2) (j := 3) (l := 4) (by rfl) nd rfl rfl rfl (by decide) (by decide) (by decide) rfl rfl rfl (pa_cons (pe_op op_add pe_int (pe_k c_law_draw  hr (by decide) (by rfl) (pa_cons (pv 0) (pa_cons pe_int pa_nil)))) (pa_cons (pe_k c_law_draw  hr (by decide) (by rfl) (pa_cons (pv 0) (pa_cons pe_int pa_nil))) (pa_cons (pe_k c_law_draw  hr (by decide) (by rfl) (pa_cons (pv 0) (pa_cons pe_int pa_nil))) pa_nil))) (by rfl))
      (pss_cons (ps_par (i := 5) (j := 6) (by rfl) nd rfl rfl (by decide) rfl rfl (pa_cons (pe_op op_sub (pe_op op_mulW (pv 3) (pv 3)) (pe_op op_mulW (pv 2) (pv 2))) (pa_cons (pe_op op_sub (pe_op op_mulW (pv 4) (pv 4)) (pe_op op_mulW (pv 2) (pv 2))) pa_nil)) (by rfl))
      (pss_one (ps_if (PW.pt (pw_and (pt_cmpR op_ne (pv 5) (pv 6) (nomark _)) (pw_and (pt_cmpR op_ne (pe_op op_mulW (pv 5) (pv 6)) pe_int (nomark _)) (pw_and (pt_cmpR op_le (pe_callB call_abs (by rfl) T.abs (by decide +kernel) (pa_cons (pe_op op_mulW (pv 5) (pv 6)) pa_nil)) pe_int (nomark _)) (pw_and1 (pt_cmpR op_le (pe_callB call_abs (by rfl) T.abs (by decide +kernel) (pa_cons (pe_op op_add (pv 5) (pv 6)) pa_nil)) pe_int (nomark _))))))) (pss_one (ps_ret (pe_tup (pa_cons (pe_tup (pa_cons (pv 5) (pa_cons (pv 6) pa_nil))) (pa_cons (pe_tup (pa_cons (pe_tup (pa_cons (pv 2) (pa_cons pe_int pa_nil))) (pa_cons (pe_tup (pa_cons (pv 3) (pa_cons pe_int pa_nil))) (pa_cons (pe_tup (pa_cons (pv 4) (pa_cons pe_int pa_nil))) pa_nil)))) pa_nil))))) pss_nil)))))
      (pss_one (ps_ret (pe_tup (pa_cons (pe_tup (pa_cons (pe_un un_neg pe_int) (pa_cons pe_int pa_nil))) (pa_cons (pe_tup (pa_cons (pe_tup (pa_cons pe_int (pa_cons pe_int pa_nil))) (pa_cons (pe_tup (pa_cons pe_int (pa_cons pe_int pa_nil))) (pa_cons (pe_tup (pa_cons pe_int (pa_cons pe_int pa_nil))) pa_nil)))) pa_nil)))))), ?_⟩
    refine ⟨60, rfl, by decide, by decide, for_range (lo := 0) (n := 60) (fun i σ H2 => But m H H2 ∧ MAt H2 m cl (n + 3 * i) ∧ ∃ v1 v2 v3 v4 v5 v6 : Option V, σ = [some (.ref m), v1, v2, v3, v4, v5, v6]) ⟨But.refl m H, hM, none, none, none, none, none, none, rfl⟩ ?_ ?_⟩
    · rintro i σ H2 hi ⟨b2, m2, v1, v2, v3, v4, v5, v6, rfl⟩
      first | refine sigN [some (.ref m), some (.int (0 + (i : Int))), v2, v3, v4, v5, v6] (by rfl) ?_ | refine sig [some (.ref m), some (.int (0 + (i : Int))), v2, v3, v4, v5, v6] (by rfl) ?_
      refine ⟨_, rfl, m, cl, 14, _, rfl, by decide, by decide, by omega, m2, fun H4 t b4 m4 t0 t1 => ⟨_, _, rfl, rfl, ?_⟩⟩
      refine ⟨_, rfl, m, cl, 15, _, rfl, by decide, by decide, by omega, m4, fun H5 u b5 m5 u0 u1 => ?_⟩
      refine ⟨_, rfl, m, cl, 15, _, rfl, by decide, by decide, by omega, m5, fun H6 v b6 m6 v0 v1 => ⟨_, _, _, rfl, ?_⟩⟩
      first | refine sigN [some (.ref m), some (.int (0 + (i : Int))), some (.int (1 + t)), some (.int (u)), some (.int (v)), v5, v6] (by rfl) ?_ | refine sig [some (.ref m), some (.int (0 + (i : Int))), some (.int (1 + t)), some (.int (u)), some (.int (v)), v5, v6] (by rfl) ?_
      obtain ⟨t', ht⟩ : ∃ s' : Int, 1 + t = s' := ⟨_, rfl⟩
      rw [ht]
      have bA := b2.trans (b4.trans (b5.trans b6))
      have mA : MAt H6 m cl (n + 3 * (i + 1)) := m6.up (by omega)
      clear b2 b4 b5 b6 m2 m4 m5 m6
      have tB : B 5 t' := by
        unfold Gd.B
        omega
      have uB : B 5 u := by
        unfold Gd.B
        omega
      have vB : B 5 v := by
        unfold Gd.B
        omega
      refine ⟨_, rfl, _, rfl, _, _, rfl, rfl, uB.mulW uB (by decide), _, rfl, _, rfl, _, _, rfl, rfl, tB.mulW tB (by decide), _, _, rfl, rfl, _, rfl, _, rfl, _, _, rfl, rfl, vB.mulW vB (by decide), _, rfl, _, rfl, _, _, rfl, rfl, tB.mulW tB (by decide), _, _, rfl, rfl, _, _, rfl, ?_⟩
      first | refine sigN [some (.ref m), some (.int (0 + (i : Int))), some (.int (t')), some (.int (u)), some (.int (v)), some (.int (u * u - t' * t')), some (.int (v * v - t' * t'))] (by rfl) ?_ | refine sig [some (.ref m), some (.int (0 + (i : Int))), some (.int (t')), some (.int (u)), some (.int (v)), some (.int (u * u - t' * t')), some (.int (v * v - t' * t'))] (by rfl) ?_
      have oneB : B 12 (u * u - t' * t') := ((uB.mul uB).sub (tB.mul tB)).up (by decide)
      have twoB : B 12 (v * v - t' * t') := ((vB.mul vB).sub (tB.mul tB)).up (by decide)
      have dc := dc_of (t := t') (u := u) (v := v) (by omega) (by omega) u0 (by omega) v0 (by omega)
      obtain ⟨one, hone⟩ : ∃ z, u * u - t' * t' = z := ⟨_, rfl⟩
      obtain ⟨two, htwo⟩ : ∃ z, v * v - t' * t' = z := ⟨_, rfl⟩
      rw [hone, htwo] at dc ⊢
      rw [hone] at oneB
      rw [htwo] at twoB
      have again : ∀ x y : Int, But m H H6 ∧ MAt H6 m cl (n + 3 * (i + 1)) ∧ ∃ v1 v2 v3 v4 v5 v6 : Option V, [some (V.ref m), some (.int (0 + (i : Int))), some (.int t'), some (.int u), some (.int v), some (.int x), some (.int y)] = [some (.ref m), v1, v2, v3, v4, v5, v6] := fun x y => ⟨bA, mA, _, _, _, _, _, _, rfl⟩
      refine ⟨_, rfl, _, rfl, rfl, _, rfl, ?_⟩
      rw [dec_int]
      by_cases c3 : one = two
      · refine iteN (by simpa using c3) ?_
        exact again _ _
      · refine iteY (by simpa using c3) ?_
        refine ⟨_, rfl, _, rfl, _, _, rfl, rfl, oneB.mulW twoB (by decide), rfl, _, rfl, ?_⟩
        rw [dec_int]
        by_cases c4 : one * two = 0
        · refine iteN (by rw [c4]; decide) ?_
          exact again _ _
        · refine iteY (by simpa using c4) ?_
          refine ⟨_, rfl, _, rfl, _, _, rfl, rfl, oneB.mulW twoB (by decide), _, rfl, _, _, rfl, rfl, _, rfl, ?_⟩
          rw [abs_eq]
          by_cases c5 : ((one * two).natAbs : Int) ≤ 10000
          · refine iteY (decide_eq_true c5) ?_
            refine ⟨_, rfl, _, rfl, _, _, rfl, rfl, _, rfl, _, _, rfl, rfl, _, rfl, ?_⟩
            rw [abs_eq]
            by_cases c6 : ((one + two).natAbs : Int) ≤ 10000
            · refine iteY (decide_eq_true c6) ?_
              have dr := dc c3 (by omega)
              refine ⟨_, rfl, _, rfl, (by show 2 ≤ sizeLine; decide), fun p0 n0 => ?_⟩
              have s7 := Same.new (H := H6) (p := p0) (o := .tup [.int one, .int two]) n0
              have g7 : upd H6 p0 (.tup [.int one, .int two]) p0 = some (.tup [.int one, .int two]) := upd_same
              generalize upd H6 p0 (.tup [.int one, .int two]) = H7 at s7 g7 ⊢
              refine ⟨_, rfl, (by show 2 ≤ sizeLine; decide), fun p1 n1 => ?_⟩
              have s8 := Same.new (H := H7) (p := p1) (o := .tup [.int t', .int 1]) n1
              have g8 : upd H7 p1 (.tup [.int t', .int 1]) p1 = some (.tup [.int t', .int 1]) := upd_same
              generalize upd H7 p1 (.tup [.int t', .int 1]) = H8 at s8 g8 ⊢
              refine ⟨_, rfl, (by show 2 ≤ sizeLine; decide), fun p2 n2 => ?_⟩
              have s9 := Same.new (H := H8) (p := p2) (o := .tup [.int u, .int 1]) n2
              have g9 : upd H8 p2 (.tup [.int u, .int 1]) p2 = some (.tup [.int u, .int 1]) := upd_same
              generalize upd H8 p2 (.tup [.int u, .int 1]) = H9 at s9 g9 ⊢
              refine ⟨_, rfl, (by show 2 ≤ sizeLine; decide), fun p3 n3 => ?_⟩
              have sa := Same.new (H := H9) (p := p3) (o := .tup [.int v, .int 1]) n3
              have ga : upd H9 p3 (.tup [.int v, .int 1]) p3 = some (.tup [.int v, .int 1]) := upd_same
              generalize upd H9 p3 (.tup [.int v, .int 1]) = Ha at sa ga ⊢
              refine ⟨(by show 3 ≤ sizeLine; decide), fun tc ntc => ?_⟩
              have sb := Same.new (H := Ha) (p := tc) (o := .tup [.ref p1, .ref p2, .ref p3]) ntc
              have gb : upd Ha tc (.tup [.ref p1, .ref p2, .ref p3]) tc = some (.tup [.ref p1, .ref p2, .ref p3]) := upd_same
              generalize upd Ha tc (.tup [.ref p1, .ref p2, .ref p3]) = Hb at sb gb ⊢
              refine ⟨(by show 2 ≤ sizeLine; decide), fun r nr => ?_⟩
              have sc := Same.new (H := Hb) (p := r) (o := .tup [.ref p0, .ref tc]) nr
              have sA := s7.trans (s8.trans (s9.trans (sa.trans (sb.trans sc))))
              rw [← fq_int t'] at g8
              rw [← fq_int u] at g9
              rw [← fq_int v] at ga
              exact q _ r p0 tc one two _ (bA.trans (But.of sA)) ((mA.same sA).up (by omega)) (tup_of upd_same) (tup_of ((s8.trans (s9.trans (sa.trans (sb.trans sc)))) _ _ g7)) ⟨p1, p2, p3, tup_of (sc _ _ gb), tup_of ((s9.trans (sa.trans (sb.trans sc))) _ _ g8), tup_of ((sa.trans (sb.trans sc)) _ _ g9), tup_of ((sb.trans sc) _ _ ga)⟩ dr
            · refine iteN (by simpa using c6) ?_
              exact again _ _
          · refine iteN (by simpa using c5) ?_
            exact again _ _
    · rintro σ H2 ⟨b2, m2, v1, v2, v3, v4, v5, v6, rfl⟩
      refine ⟨_, rfl, (by show 2 ≤ sizeLine; decide), fun p0 n0 => ?_⟩
      have s7 := Same.new (H := H2) (p := p0) (o := .tup [.int (-24), .int 24]) n0
      have g7 : upd H2 p0 (.tup [.int (-24), .int 24]) p0 = some (.tup [.int (-24), .int 24]) := upd_same
      generalize upd H2 p0 (.tup [.int (-24), .int 24]) = H7 at s7 g7 ⊢
      refine ⟨(by show 2 ≤ sizeLine; decide), fun p1 n1 => ?_⟩
      have s8 := Same.new (H := H7) (p := p1) (o := .tup [.int 5, .int 1]) n1
      have g8 : upd H7 p1 (.tup [.int 5, .int 1]) p1 = some (.tup [.int 5, .int 1]) := upd_same
      generalize upd H7 p1 (.tup [.int 5, .int 1]) = H8 at s8 g8 ⊢
      refine ⟨(by show 2 ≤ sizeLine; decide), fun p2 n2 => ?_⟩
      have s9 := Same.new (H := H8) (p := p2) (o := .tup [.int 1, .int 1]) n2
      have g9 : upd H8 p2 (.tup [.int 1, .int 1]) p2 = some (.tup [.int 1, .int 1]) := upd_same
      generalize upd H8 p2 (.tup [.int 1, .int 1]) = H9 at s9 g9 ⊢
      refine ⟨(by show 2 ≤ sizeLine; decide), fun p3 n3 => ?_⟩
      have sa := Same.new (H := H9) (p := p3) (o := .tup [.int 7, .int 1]) n3
      have ga : upd H9 p3 (.tup [.int 7, .int 1]) p3 = some (.tup [.int 7, .int 1]) := upd_same
      generalize upd H9 p3 (.tup [.int 7, .int 1]) = Ha at sa ga ⊢
      refine ⟨(by show 3 ≤ sizeLine; decide), fun tc ntc => ?_⟩
      have sb := Same.new (H := Ha) (p := tc) (o := .tup [.ref p1, .ref p2, .ref p3]) ntc
      have gb : upd Ha tc (.tup [.ref p1, .ref p2, .ref p3]) tc = some (.tup [.ref p1, .ref p2, .ref p3]) := upd_same
      generalize upd Ha tc (.tup [.ref p1, .ref p2, .ref p3]) = Hb at sb gb ⊢
      refine ⟨(by show 2 ≤ sizeLine; decide), fun r nr => ?_⟩
      have sc := Same.new (H := Hb) (p := r) (o := .tup [.ref p0, .ref tc]) nr
      have sA := s7.trans (s8.trans (s9.trans (sa.trans (sb.trans sc))))
      rw [← fq_int 5] at g8
      rw [← fq_int 1] at g9
      rw [← fq_int 7] at ga
      exact q _ r p0 tc (-24) 24 _ (b2.trans (But.of sA)) ((m2.same sA).up (by omega)) (tup_of upd_same) (tup_of ((s8.trans (s9.trans (sa.trans (sb.trans sc)))) _ _ g7)) ⟨p1, p2, p3, tup_of (sc _ _ gb), tup_of ((s9.trans (sa.trans (sb.trans sc))) _ _ g8), tup_of ((sa.trans (sb.trans sc)) _ _ g9), tup_of ((sb.trans sc) _ _ ga)⟩ dc_0
end
end K55
set_option Elab.async false
set_option linter.all false
set_option maxRecDepth 100000
set_option maxHeartbeats 4000000
namespace K55
open PySem PySem.Spec PyProof.Rows L2 Gd QM EcM EcP
theorem pm_of {x : V} (h : x ∈ [V.int 1, V.int (-1)]) : ∃ k : Int, x = .int k ∧ (k = 1 ∨ k = -1) := by
  simp only [List.mem_cons, List.not_mem_nil, or_false] at h
  rcases h with rfl | rfl
  · exact ⟨_, rfl, .inl rfl⟩
  · exact ⟨_, rfl, .inr rfl⟩
section
variable {P : Program} {w : World} {K : PySem.W.Frag} {mg : Str → Option Value} {base : Heap}
def sp_law_triangle (K : PySem.W.Frag) : Sp := fun vs H Q _ => ∃ (m cl : Addr) (n : Nat), vs = [.ref m] ∧ n ≤ 1000 ∧ MAt H m cl n ∧ ∀ H' t tc N c, But m H H' → MAt H' m cl (n + 300) → SqT K H' t [.int N, .ref tc] → TrT K H' tc c → Dt N c → Q (.ref t) H'
abbrev s__law_triangle : Stmt := topS 55
theorem sc__law_triangle : FnScope ["m", "lap", "q", "p", "area", "n", "s", "one", "two", "a", "b", "c"] ["m"] (defScope s__law_triangle) := ⟨rfl, rfl, rfl, by decide +kernel, rfl, by decide +kernel, by decide +kernel⟩
theorem k_law_triangle (T : Tx K mg) (D : Df K mg "_law_triangle" s__law_triangle ["m"]) (c_law_class : Kl P w K mg base 1 "_law_class" (sp_law_class K)) (c_law_draw : Kl P w K mg base 1 "_law_draw" (sp_law_draw K)) (c_law_cut : Kl P w K mg base 2 "_law_cut" (sp_law_cut K)) (c_law_root : Kl P w K mg base 1 "_law_root" (sp_law_root K)) (c_law_of : Kl P w K mg base 2 "_law_of" (sp_law_of K)) : Kl P w K mg base 3 "_law_triangle" (sp_law_triangle K) := by
  have nd := sc__law_triangle.nd
  refine Kl.by_body D sc__law_triangle (fun vs H Q E h => ?_) (fun f cdv A outer s H vs Q E hr h => ?_)
  · obtain ⟨_, _, _, rfl, _⟩ := h
    rfl
  · obtain ⟨m, cl, n, rfl, hn, hM, q⟩ := h
    have hu1 := hu_of hr
    refine ⟨_, (pss_cons (ps_for PassesOwn.never rfl (pi_range1 (by rfl) T.range (pa_cons pe_int pa_nil)) (pg_name (i := 1) nd rfl (by first | exact Or.inl rfl | exact Or.inr rfl)) (pss_cons (ps_set (i := 2) nd rfl (by first | exact Or.inl rfl | exact Or.inr rfl) (pe_op op_add pe_int (pe_k c_law_draw  hr (by decide) (by rfl) (pa_cons (pv 0) (pa_cons pe_int pa_nil)))))
      (pss_cons (ps_set (i := 3) nd rfl (by first | exact Or.inl rfl | exact Or.inr rfl) (pe_op op_add (pe_op op_add (pv 2) pe_int) (pe_k c_law_draw  hr (by decide) (by rfl) (pa_cons (pv 0) (pa_cons pe_int pa_nil)))))
      (pss_cons (ps_set (i := 4) nd rfl (by first | exact Or.inl rfl | exact Or.inr rfl) (pe_op op_mulW (pe_op op_mulW (pv 3) (pv 2)) (pe_op op_sub (pe_op op_mulW (pv 3) (pv 3)) (pe_op op_mulW (pv 2) (pv 2)))))
      (pss_cons (ps_set (i := 5) nd rfl (by first | exact Or.inl rfl | exact Or.inr rfl) (pe_k c_law_class  hr (by decide) (by rfl) (pa_cons (pv 4) pa_nil)))
      (pss_one (ps_if (pt_cmpR op_le (pv 5) pe_int (nomark _)) (pss_cons (ps_par3 (i := 6) (j := 7) (l := 8) (by rfl) nd rfl rfl rfl (by decide) (by decide) (by decide) rfl rfl rfl (pa_cons (pe_k c_law_root  hr (by decide) (by rfl) (pa_cons (pe_op op_fdivAny (pv 4) (pv 5)) pa_nil)) (pa_cons (pe_k c_law_of  hr (by decide) (by rfl) (pa_cons (pv 0) (pa_cons (pe_lst (pa_cons pe_int (pa_cons (pe_un un_neg pe_int) pa_nil))) pa_nil))) (pa_cons (pe_k c_law_of  hr (by decide) (by rfl) (pa_cons (pv 0) (pa_cons (pe_lst (pa_cons pe_int (pa_cons (pe_un un_neg pe_int) pa_nil))) pa_nil))) pa_nil))) (by rfl))
      (pss_cons (ps_par (i := 9) (j := 10) (by rfl) nd rfl rfl (by decide) rfl rfl (pa_cons (pe_k c_law_cut  hr (by decide) (by rfl) (pa_cons (pe_op op_mulW (pv 7) (pe_op op_sub (pe_op op_mulW (pv 3) (pv 3)) (pe_op op_mulW (pv 2) (pv 2)))) (pa_cons (pv 6) pa_nil))) (pa_cons (pe_k c_law_cut  hr (by decide) (by rfl) (pa_cons (pe_op op_mulW (pe_op op_mulW (pe_op op_mul (pv 7) pe_int) (pv 3)) (pv 2)) (pa_cons (pv 6) pa_nil))) pa_nil)) (by rfl))
      (pss_cons (ps_set (i := 11) nd rfl (by first | exact Or.inl rfl | exact Or.inr rfl) (pe_k c_law_cut  hr (by decide) (by rfl) (pa_cons (pe_op op_mulW (pv 8) (pe_op op_add (pe_op op_mulW (pv 3) (pv 3)) (pe_op op_mulW (pv 2) (pv 2)))) (pa_cons (pv 6) pa_nil))))
      (pss_one (ps_ret (pe_tup (pa_cons (pv 5) (pa_cons (pe_ifExp (pt_cmpR op_eq (pe_k c_law_draw  hr (by decide) (by rfl) (pa_cons (pv 0) (pa_cons pe_int pa_nil))) pe_int (nomark _)) (pe_tup (pa_cons (pv 9) (pa_cons (pv 10) (pa_cons (pv 11) pa_nil)))) (pe_tup (pa_cons (pv 10) (pa_cons (pv 9) (pa_cons (pv 11) pa_nil))))) pa_nil)))))))) pss_nil)))))))
      (pss_one (ps_ret (pe_tup (pa_cons pe_int (pa_cons (pe_tup (pa_cons (pe_tup (pa_cons pe_int (pa_cons pe_int pa_nil))) (pa_cons (pe_tup (pa_cons pe_int (pa_cons pe_int pa_nil))) (pa_cons (pe_tup (pa_cons pe_int (pa_cons pe_int pa_nil))) pa_nil)))) pa_nil)))))), ?_⟩
    refine ⟨60, rfl, by decide, by decide, for_range (lo := 0) (n := 60) (fun i σ H2 => But m H H2 ∧ MAt H2 m cl (n + 2 * i) ∧ ∃ v1 v2 v3 v4 v5 v6 v7 v8 v9 va vb : Option V, σ = [some (.ref m), v1, v2, v3, v4, v5, v6, v7, v8, v9, va, vb]) ⟨But.refl m H, hM, none, none, none, none, none, none, none, none, none, none, none, rfl⟩ ?_ ?_⟩
    · rintro i σ H2 hi ⟨b2, m2, v1, v2, v3, v4, v5, v6, v7, v8, v9, va, vb, rfl⟩
      first | refine sigN [some (.ref m), some (.int (0 + (i : Int))), v2, v3, v4, v5, v6, v7, v8, v9, va, vb] (by rfl) ?_ | refine sig [some (.ref m), some (.int (0 + (i : Int))), v2, v3, v4, v5, v6, v7, v8, v9, va, vb] (by rfl) ?_
      refine ⟨_, rfl, m, cl, 8, _, rfl, by decide, by decide, by omega, m2, fun H3 q' b3 m3 q0 q1 => ⟨_, _, rfl, rfl, ?_⟩⟩
      first | refine sigN [some (.ref m), some (.int (0 + (i : Int))), some (.int (1 + q')), v3, v4, v5, v6, v7, v8, v9, va, vb] (by rfl) ?_ | refine sig [some (.ref m), some (.int (0 + (i : Int))), some (.int (1 + q')), v3, v4, v5, v6, v7, v8, v9, va, vb] (by rfl) ?_
      obtain ⟨z, hz⟩ : ∃ z : Int, 1 + q' = z := ⟨_, rfl⟩
      rw [hz]
      refine ⟨_, rfl, _, _, rfl, rfl, _, rfl, m, cl, 8, _, rfl, by decide, by decide, by omega, m3, fun H4 p b4 m4 p0 p1 => ⟨_, _, rfl, rfl, ?_⟩⟩
      first | refine sigN [some (.ref m), some (.int (0 + (i : Int))), some (.int (z)), some (.int (z + 1 + p)), v4, v5, v6, v7, v8, v9, va, vb] (by rfl) ?_ | refine sig [some (.ref m), some (.int (0 + (i : Int))), some (.int (z)), some (.int (z + 1 + p)), v4, v5, v6, v7, v8, v9, va, vb] (by rfl) ?_
      obtain ⟨p', hp⟩ : ∃ y : Int, z + 1 + p = y := ⟨_, rfl⟩
      rw [hp]
      have pB : B 5 p' := by
        unfold Gd.B
        omega
      have zB : B 4 z := by
        unfold Gd.B
        omega
      have bA := b2.trans (b3.trans b4)
      have mA : MAt H4 m cl (n + 2 * (i + 1)) := m4.up (by omega)
      refine ⟨_, rfl, _, rfl, _, _, rfl, rfl, pB.mulW zB (by decide), _, rfl, _, rfl, _, _, rfl, rfl, pB.mulW pB (by decide), _, rfl, _, rfl, _, _, rfl, rfl, zB.mulW zB (by decide), _, _, rfl, rfl, _, _, rfl, rfl, (pB.mul zB).mulW ((pB.mul pB).sub (zB.mul zB)) (by decide), ?_⟩
      first | refine sigN [some (.ref m), some (.int (0 + (i : Int))), some (.int (z)), some (.int (p')), some (.int (p' * z * (p' * p' - z * z))), v5, v6, v7, v8, v9, va, vb] (by rfl) ?_ | refine sig [some (.ref m), some (.int (0 + (i : Int))), some (.int (z)), some (.int (p')), some (.int (p' * z * (p' * p' - z * z))), v5, v6, v7, v8, v9, va, vb] (by rfl) ?_
      have pz : p' * z ≤ 16 * 8 := Int.mul_le_mul (by omega) (by omega) (by omega) (by decide)
      have pz1 : 1 * 1 ≤ p' * z := Int.mul_le_mul (by omega) (by omega) (by decide) (by omega)
      have pp : p' * p' ≤ 16 * 16 := Int.mul_le_mul (by omega) (by omega) (by omega) (by decide)
      have zz0 := sq0 z
      have dpos : 1 ≤ p' * p' - z * z := by
        have h1 := Int.mul_le_mul (show z + 1 ≤ p' by omega) (show z + 1 ≤ p' by omega) (by omega) (by omega)
        have h2 : (z + 1) * (z + 1) = z * z + 2 * z + 1 := by grind
        omega
      have ar1 : 1 * 1 ≤ p' * z * (p' * p' - z * z) := Int.mul_le_mul pz1 dpos (by decide) (by omega)
      have ar2 : p' * z * (p' * p' - z * z) ≤ 128 * 256 := Int.mul_le_mul (by omega) (by omega) (by omega) (by decide)
      obtain ⟨ar, har⟩ : ∃ ar, p' * z * (p' * p' - z * z) = ar := ⟨_, rfl⟩
      rw [har] at ar1 ar2 ⊢
      have arB : B 40 ar := by
        unfold Gd.B
        omega
      refine ⟨_, rfl, ar, rfl, by omega, arB, fun N s N0 s0 eN => ?_⟩
      first | refine sigN [some (.ref m), some (.int (0 + (i : Int))), some (.int (z)), some (.int (p')), some (.int (ar)), some (.int (N)), v6, v7, v8, v9, va, vb] (by rfl) ?_ | refine sig [some (.ref m), some (.int (0 + (i : Int))), some (.int (z)), some (.int (p')), some (.int (ar)), some (.int (N)), v6, v7, v8, v9, va, vb] (by rfl) ?_
      have sN : s * s ≤ ar := by
        have := Int.mul_le_mul_of_nonneg_right (show 1 ≤ N by omega) (sq0 s)
        omega
      have s1 : s < 1000 := by
        rcases Int.lt_or_le s 1000 with z | z
        · exact z
        · have := Int.mul_le_mul z z (by decide) (by omega)
          omega
      have NB : B 40 N := by
        have := le_mul N0 s0
        unfold Gd.B
        omega
      refine ⟨_, rfl, _, _, rfl, rfl, _, rfl, ?_⟩
      by_cases h100 : N ≤ 100
      · refine iteY (decide_eq_true h100) ?_
        have dv : CDivAny ar N := div_any (m := 40) (by omega) NB (by decide)
        have es : ar.fdiv N = s * s := by
          rw [eN, Int.mul_fdiv_cancel_left _ (by omega)]
        have sB : B 10 s := by
          unfold Gd.B
          omega
        refine ⟨_, rfl, _, rfl, _, _, rfl, rfl, dv, s * s, congrArg (fun z => [V.int z]) es, sq0 s, (sB.mul sB).up (by decide), fun H5 r s5 r0 r1 r2 => ?_⟩
        have er : r = s := by
          rcases Int.lt_trichotomy r s with z | z | z
          · have := Int.mul_le_mul (show r + 1 ≤ s by omega) (show r + 1 ≤ s by omega) (by omega) (by omega)
            omega
          · exact z
          · have h1 := Int.mul_le_mul (show s + 1 ≤ r by omega) (show s + 1 ≤ r by omega) (by omega) (by omega)
            have h2 : (s + 1) * (s + 1) = s * s + 2 * s + 1 := by grind
            omega
        subst er
        refine ⟨_, rfl, _, rfl, (by show 2 ≤ sizeLine; decide), fun l1 nl1 => ?_⟩
        have s6 := Same.new (H := H5) (p := l1) (o := .lst [.int 1, (fun i => V.int (-i)) 1]) nl1
        have g6 : upd H5 l1 (.lst [.int 1, (fun i => V.int (-i)) 1]) l1 = some (.lst [.int 1, (fun i => V.int (-i)) 1]) := upd_same
        generalize upd H5 l1 (.lst [.int 1, (fun i => V.int (-i)) 1]) = H6 at s6 g6 ⊢
        refine ⟨m, cl, l1, [.int 1, .int (-1)], n + 2 * (i + 1), rfl, lst_of g6, by decide, by decide, by omega, mA.same (s5.trans s6), fun H7 x b7 m7 hx => ?_⟩
        obtain ⟨one, rfl, h1⟩ := pm_of hx
        refine ⟨_, rfl, _, rfl, (by show 2 ≤ sizeLine; decide), fun l2 nl2 => ?_⟩
        have s8 := Same.new (H := H7) (p := l2) (o := .lst [.int 1, (fun i => V.int (-i)) 1]) nl2
        have g8 : upd H7 l2 (.lst [.int 1, (fun i => V.int (-i)) 1]) l2 = some (.lst [.int 1, (fun i => V.int (-i)) 1]) := upd_same
        generalize upd H7 l2 (.lst [.int 1, (fun i => V.int (-i)) 1]) = H8 at s8 g8 ⊢
        refine ⟨m, cl, l2, [.int 1, .int (-1)], _, rfl, lst_of g8, by decide, by decide, by omega, m7.same s8, fun H9 x b9 m9 hx => ?_⟩
        obtain ⟨two, rfl, h2⟩ := pm_of hx
        refine ⟨_, _, _, rfl, ?_⟩
        first | refine sigN [some (.ref m), some (.int (0 + (i : Int))), some (.int (z)), some (.int (p')), some (.int (ar)), some (.int (N)), some (.int (r)), some (.int (one)), some (.int (two)), v9, va, vb] (by rfl) ?_ | refine sig [some (.ref m), some (.int (0 + (i : Int))), some (.int (z)), some (.int (p')), some (.int (ar)), some (.int (N)), some (.int (r)), some (.int (one)), some (.int (two)), v9, va, vb] (by rfl) ?_
        have oB : B 1 one := by
          unfold Gd.B
          omega
        have tB : B 1 two := by
          unfold Gd.B
          omega
        have rB : B 10 r := sB
        have sz : r ≠ 0 := by omega
        have dts := dt_of (n := N) (s := r) (p := p') (q := z) (one := one) (two := two) N0 h100 s0 s1 (by omega) (by omega) (by omega) (by omega) h1 h2 (har.trans eN)
        have B0 := bA.trans ((But.of (s5.trans s6)).trans (b7.trans ((But.of s8).trans b9)))
        refine ⟨_, rfl, _, rfl, _, rfl, _, _, rfl, rfl, pB.mulW pB (by decide), _, rfl, _, rfl, _, _, rfl, rfl, zB.mulW zB (by decide), _, _, rfl, rfl, _, _, rfl, rfl, oB.mulW ((pB.mul pB).sub (zB.mul zB)) (by decide), _, rfl, _, _, rfl, sz, ((oB.mul ((pB.mul pB).sub (zB.mul zB))).up (by decide)), rB.up (by decide), fun t1 nt1 => ?_⟩
        have sa := Same.new (H := H9) (p := t1) (o := .tup (fq (Rat.divInt (one * (p' * p' - z * z)) r))) nt1
        have ga : upd H9 t1 (.tup (fq (Rat.divInt (one * (p' * p' - z * z)) r))) t1 = some (.tup (fq (Rat.divInt (one * (p' * p' - z * z)) r))) := upd_same
        generalize upd H9 t1 (.tup (fq (Rat.divInt (one * (p' * p' - z * z)) r))) = Ha at sa ga ⊢
        refine ⟨_, rfl, _, _, rfl, rfl, Or.inr ⟨by decide, by decide⟩, _, rfl, _, _, rfl, rfl, (oB.mul (B.lit (n := 2) (x := 2) (by decide))).mulW pB (by decide), _, rfl, _, _, rfl, rfl, ((oB.mul (B.lit (n := 2) (x := 2) (by decide))).mul pB).mulW zB (by decide), _, rfl, _, _, rfl, sz, ((((oB.mul (B.lit (n := 2) (x := 2) (by decide))).mul pB).mul zB).up (by decide)), rB.up (by decide), fun t2 nt2 => ?_⟩
        have sb := Same.new (H := Ha) (p := t2) (o := .tup (fq (Rat.divInt (one * 2 * p' * z) r))) nt2
        have gb : upd Ha t2 (.tup (fq (Rat.divInt (one * 2 * p' * z) r))) t2 = some (.tup (fq (Rat.divInt (one * 2 * p' * z) r))) := upd_same
        generalize upd Ha t2 (.tup (fq (Rat.divInt (one * 2 * p' * z) r))) = Hb at sb gb ⊢
        refine ⟨_, _, rfl, ?_⟩
        first | refine sigN [some (.ref m), some (.int (0 + (i : Int))), some (.int (z)), some (.int (p')), some (.int (ar)), some (.int (N)), some (.int (r)), some (.int (one)), some (.int (two)), some (.ref t1), some (.ref t2), vb] (by rfl) ?_ | refine sig [some (.ref m), some (.int (0 + (i : Int))), some (.int (z)), some (.int (p')), some (.int (ar)), some (.int (N)), some (.int (r)), some (.int (one)), some (.int (two)), some (.ref t1), some (.ref t2), vb] (by rfl) ?_
        refine ⟨_, rfl, _, rfl, _, rfl, _, _, rfl, rfl, pB.mulW pB (by decide), _, rfl, _, rfl, _, _, rfl, rfl, zB.mulW zB (by decide), _, _, rfl, rfl, _, _, rfl, rfl, tB.mulW ((pB.mul pB).add (zB.mul zB)) (by decide), _, rfl, _, _, rfl, sz, ((tB.mul ((pB.mul pB).add (zB.mul zB))).up (by decide)), rB.up (by decide), fun t3 nt3 => ?_⟩
        have sc := Same.new (H := Hb) (p := t3) (o := .tup (fq (Rat.divInt (two * (p' * p' + z * z)) r))) nt3
        have gc : upd Hb t3 (.tup (fq (Rat.divInt (two * (p' * p' + z * z)) r))) t3 = some (.tup (fq (Rat.divInt (two * (p' * p' + z * z)) r))) := upd_same
        generalize upd Hb t3 (.tup (fq (Rat.divInt (two * (p' * p' + z * z)) r))) = Hc at sc gc ⊢
        first | refine sigN [some (.ref m), some (.int (0 + (i : Int))), some (.int (z)), some (.int (p')), some (.int (ar)), some (.int (N)), some (.int (r)), some (.int (one)), some (.int (two)), some (.ref t1), some (.ref t2), some (.ref t3)] (by rfl) ?_ | refine sig [some (.ref m), some (.int (0 + (i : Int))), some (.int (z)), some (.int (p')), some (.int (ar)), some (.int (N)), some (.int (r)), some (.int (one)), some (.int (two)), some (.ref t1), some (.ref t2), some (.ref t3)] (by rfl) ?_
        have SA := sa.trans (sb.trans sc)
        refine ⟨_, rfl, _, rfl, m, cl, 2, _, rfl, by decide, by decide, by omega, m9.same SA, fun Hd d bd md d0 d1 => ?_⟩
        have ga2 := (bd.seqT (m9.same SA) (tup_of ((sb.trans sc) _ _ ga)) : SqT K Hd t1 _)
        have gb2 := (bd.seqT (m9.same SA) (tup_of (sc _ _ gb)) : SqT K Hd t2 _)
        have gc2 := (bd.seqT (m9.same SA) (tup_of gc) : SqT K Hd t3 _)
        have BB := B0.trans ((But.of SA).trans bd)
        clear B0 bA b7 b9 bd
        have fin : ∀ tc Hf c, Same Hd Hf → TrT K Hf tc c → Dt N c → ∀ H' t, Hf t = none → H' = upd Hf t (.tup [.int N, .ref tc]) → Q (.ref t) H' := fun tc Hf c s' hc dd H' t ht e' => by
          have sz := Same.new (H := Hf) (p := t) (o := .tup [.int N, .ref tc]) ht
          subst e'
          exact q _ t tc N c (BB.trans (But.of (s'.trans sz))) ((md.same (s'.trans sz)).up (by omega)) (tup_of upd_same) (hc.same sz) dd
        refine ⟨rfl, _, rfl, ?_⟩
        rw [dec_int]
        by_cases hd : d = 0
        · refine iteY (by simpa using hd) ?_
          refine ⟨_, rfl, _, rfl, _, rfl, (by show 3 ≤ sizeLine; decide), fun tc ntc => ?_⟩
          have sx := Same.new (H := Hd) (p := tc) (o := .tup [.ref t1, .ref t2, .ref t3]) ntc
          exact ⟨(by show 2 ≤ sizeLine; decide), fun t nt => fin tc _ _ sx ⟨t1, t2, t3, tup_of upd_same, Same.tup sx ga2, Same.tup sx gb2, Same.tup sx gc2⟩ dts.1 _ t nt rfl⟩
        · refine iteN (by simpa using hd) ?_
          refine ⟨_, rfl, _, rfl, _, rfl, (by show 3 ≤ sizeLine; decide), fun tc ntc => ?_⟩
          have sx := Same.new (H := Hd) (p := tc) (o := .tup [.ref t2, .ref t1, .ref t3]) ntc
          exact ⟨(by show 2 ≤ sizeLine; decide), fun t nt => fin tc _ _ sx ⟨t2, t1, t3, tup_of upd_same, Same.tup sx gb2, Same.tup sx ga2, Same.tup sx gc2⟩ dts.2 _ t nt rfl⟩
      · refine iteN (by simpa using h100) ?_
        exact ⟨bA, mA, _, _, _, _, _, _, _, _, _, _, _, rfl⟩
    · rintro σ H2 ⟨b2, m2, v1, v2, v3, v4, v5, v6, v7, v8, v9, va, vb, rfl⟩
      refine ⟨(by show 2 ≤ sizeLine; decide), fun p1 n1 => ?_⟩
      have s7 := Same.new (H := H2) (p := p1) (o := .tup [.int 3, .int 1]) n1
      have g7 : upd H2 p1 (.tup [.int 3, .int 1]) p1 = some (.tup [.int 3, .int 1]) := upd_same
      generalize upd H2 p1 (.tup [.int 3, .int 1]) = H7 at s7 g7 ⊢
      refine ⟨(by show 2 ≤ sizeLine; decide), fun p2 n2 => ?_⟩
      have s8 := Same.new (H := H7) (p := p2) (o := .tup [.int 4, .int 1]) n2
      have g8 : upd H7 p2 (.tup [.int 4, .int 1]) p2 = some (.tup [.int 4, .int 1]) := upd_same
      generalize upd H7 p2 (.tup [.int 4, .int 1]) = H8 at s8 g8 ⊢
      refine ⟨(by show 2 ≤ sizeLine; decide), fun p3 n3 => ?_⟩
      have s9 := Same.new (H := H8) (p := p3) (o := .tup [.int 5, .int 1]) n3
      have g9 : upd H8 p3 (.tup [.int 5, .int 1]) p3 = some (.tup [.int 5, .int 1]) := upd_same
      generalize upd H8 p3 (.tup [.int 5, .int 1]) = H9 at s9 g9 ⊢
      refine ⟨(by show 3 ≤ sizeLine; decide), fun tc ntc => ?_⟩
      have s10 := Same.new (H := H9) (p := tc) (o := .tup [.ref p1, .ref p2, .ref p3]) ntc
      have g10 : upd H9 tc (.tup [.ref p1, .ref p2, .ref p3]) tc = some (.tup [.ref p1, .ref p2, .ref p3]) := upd_same
      generalize upd H9 tc (.tup [.ref p1, .ref p2, .ref p3]) = H10 at s10 g10 ⊢
      refine ⟨(by show 2 ≤ sizeLine; decide), fun r nr => ?_⟩
      have s11 := Same.new (H := H10) (p := r) (o := .tup [.int 6, .ref tc]) nr
      have sA := s7.trans (s8.trans (s9.trans (s10.trans s11)))
      have e1 : fq (Rat.divInt 3 1) = [.int 3, .int 1] := by decide +kernel
      have e2 : fq (Rat.divInt 4 1) = [.int 4, .int 1] := by decide +kernel
      have e3 : fq (Rat.divInt 5 1) = [.int 5, .int 1] := by decide +kernel
      rw [← e1] at g7
      rw [← e2] at g8
      rw [← e3] at g9
      exact q _ r tc 6 _ (b2.trans (But.of sA)) ((m2.same sA).up (by omega)) (tup_of upd_same) ⟨p1, p2, p3, tup_of (s11 _ _ g10), tup_of ((s8.trans (s9.trans (s10.trans s11))) _ _ g7), tup_of ((s9.trans (s10.trans s11)) _ _ g8), tup_of ((s10.trans s11) _ _ g9)⟩ dt_0
end
end K55
set_option Elab.async false
set_option linter.all false
set_option maxRecDepth 100000
set_option maxHeartbeats 4000000
namespace K55
open PySem PySem.Spec PyProof.Rows L2 Gd QM EcM EcP
local macro_rules | `(tactic| walk_at "mm") => `(tactic| (repeat (first | exact List.mem_cons_self | apply List.mem_cons_of_mem)))
section
variable {P : Program} {w : World} {K : PySem.W.Frag} {mg : Str → Option Value} {base : Heap}
def sp_law_curve (K : PySem.W.Frag) : Sp := fun vs H Q _ => ∃ (qa : Addr) (qn : Qn), vs = [.ref qa] ∧ SqT K H qa qn.vs ∧ qn.Bd ∧ ∀ t, H t = none → Q (.ref t) (upd H t (.tup [.int 0, .int qn.e.a, .int 0, .int qn.e.b, .int qn.e.c]))
abbrev s__law_curve : Stmt := topS 61
theorem sc__law_curve : FnScope ["question", "n"] ["question"] (defScope s__law_curve) := ⟨rfl, rfl, rfl, by decide +kernel, rfl, by decide +kernel, by decide +kernel⟩
theorem k_law_curve (T : Tx K mg) (D : Df K mg "_law_curve" s__law_curve ["question"])  : Kl P w K mg base 1 "_law_curve" (sp_law_curve K) := by
  have nd := sc__law_curve.nd
  refine Kl.by_body D sc__law_curve (fun vs H Q E h => ?_) (fun f cdv A outer s H vs Q E hr h => ?_)
  · obtain ⟨_, _, rfl, _⟩ := h
    rfl
  · obtain ⟨qa, qn, rfl, hq, hb, q⟩ := h
    have hu1 := hu_of hr
    refine ⟨_, (pss_cons (ps_set (i := 1) nd rfl (by first | exact Or.inl rfl | exact Or.inr rfl) (pe_ix ix_tup (pv 0) pe_int (fun _ _ => rfl)))
      (pss_cons (ps_if (pt_cmpR op_eq (pe_ix ix_tup (pv 0) pe_int (fun _ _ => rfl)) pe_str (nomark _)) (pss_one (ps_ret (pe_tup (pa_cons pe_int (pa_cons pe_int (pa_cons pe_int (pa_cons (pe_op op_mulW (pe_un un_neg (pv 1)) (pv 1)) (pa_cons pe_int pa_nil)))))))) pss_nil)
      (pss_cons (ps_if (pt_cmpR op_eq (pe_ix ix_tup (pv 0) pe_int (fun _ _ => rfl)) pe_str (nomark _)) (pss_one (ps_ret (pe_tup (pa_cons pe_int (pa_cons (pe_op op_add (pv 1) (pe_ix ix_tup (pv 0) pe_int (fun _ _ => rfl))) (pa_cons pe_int (pa_cons (pe_op op_mulW (pv 1) (pe_ix ix_tup (pv 0) pe_int (fun _ _ => rfl))) (pa_cons pe_int pa_nil)))))))) pss_nil)
      (pss_one (ps_ret (pe_tup (pa_cons pe_int (pa_cons pe_int (pa_cons pe_int (pa_cons pe_int (pa_cons (pe_op op_mulW (pe_op op_mul (pe_un un_neg pe_int) (pv 1)) (pv 1)) pa_nil))))))))))), ?_⟩
    cases qn with
    | tri n =>
      have hn8 : B 8 n := B.up (show B 7 n from hb) (by decide)
      replace hq : SqT K H qa [.str "triangle", .int n] := hq
      refine ⟨_, rfl, qa, _, 1, .int n, rfl, rfl, hq, rfl, ?_⟩
      first | refine sigN [some (.ref qa), some (.int (n))] (by rfl) ?_ | refine sig [some (.ref qa), some (.int (n))] (by rfl) ?_
      refine ⟨_, rfl, qa, _, 0, _, rfl, rfl, hq, rfl, rfl, _, rfl, iteY (by simp) ?_⟩
      refine ⟨_, rfl, _, rfl, _, rfl, _, _, rfl, rfl, (hn8.neg.mulW hn8 (by decide)), (by show 5 ≤ sizeLine; decide), fun t nt => q t nt⟩
    | con m n =>
      have hm8 : B 8 m := hb.1
      have hn8 : B 8 n := hb.2
      replace hq : SqT K H qa [.str "concord", .int m, .int n] := hq
      refine ⟨_, rfl, qa, _, 1, .int m, rfl, rfl, hq, rfl, ?_⟩
      first | refine sigN [some (.ref qa), some (.int (m))] (by rfl) ?_ | refine sig [some (.ref qa), some (.int (m))] (by rfl) ?_
      refine ⟨_, rfl, qa, _, 0, _, rfl, rfl, hq, rfl, rfl, _, rfl, iteN (by decide +kernel) ?_⟩
      refine ⟨_, rfl, qa, _, 0, _, rfl, rfl, hq, rfl, rfl, _, rfl, iteY (by simp) ?_⟩
      refine ⟨_, rfl, _, rfl, qa, _, 2, .int n, rfl, rfl, hq, rfl, _, _, rfl, rfl, _, rfl, _, rfl, qa, _, 2, .int n, rfl, rfl, hq, rfl, _, _, rfl, rfl, (hm8.mulW hn8 (by decide)), (by show 5 ≤ sizeLine; decide), fun t nt => q t nt⟩
    | cub n =>
      have hn8 : B 8 n := B.up (show B 3 n from hb) (by decide)
      replace hq : SqT K H qa [.str "cubes", .int n] := hq
      refine ⟨_, rfl, qa, _, 1, .int n, rfl, rfl, hq, rfl, ?_⟩
      first | refine sigN [some (.ref qa), some (.int (n))] (by rfl) ?_ | refine sig [some (.ref qa), some (.int (n))] (by rfl) ?_
      refine ⟨_, rfl, qa, _, 0, _, rfl, rfl, hq, rfl, rfl, _, rfl, iteN (by decide +kernel) ?_⟩
      refine ⟨_, rfl, qa, _, 0, _, rfl, rfl, hq, rfl, rfl, _, rfl, iteN (by decide +kernel) ?_⟩
      refine ⟨_, rfl, _, rfl, _, _, rfl, rfl, (Or.inl ⟨by decide, by decide⟩), _, rfl, _, _, rfl, rfl, (((B.lit (n := 9) (x := 432) (by decide)).neg.mul hn8).mulW hn8 (by decide)), (by show 5 ≤ sizeLine; decide), fun t nt => q t nt⟩
def sp_law_point (K : PySem.W.Frag) : Sp := fun vs H Q _ => ∃ (qa sp : Addr) (qn : Qn) (s : List Rat), vs = [.ref qa, .ref sp] ∧ SqT K H qa qn.vs ∧ qn.Bd ∧ SolT K H sp s ∧ Cal qn s ∧ ∀ t H' S, Same H H' → PtT K H' t S → S = pnt qn s → Q (.ref t) H'
abbrev s__law_point : Stmt := topS 57
theorem sc__law_point : FnScope ["question", "solution", "n", "total_v", "b", "t", "u", "v", "x", "y"] ["question", "solution"] (defScope s__law_point) := ⟨rfl, rfl, rfl, by decide +kernel, rfl, by decide +kernel, by decide +kernel⟩
theorem k_law_point (T : Tx K mg) (D : Df K mg "_law_point" s__law_point ["question", "solution"]) (c_law_plus : Kl P w K mg base 3 "_law_plus" (sp_law_plus K)) (c_law_over : Kl P w K mg base 3 "_law_over" (sp_law_over K)) (c_law_by : Kl P w K mg base 3 "_law_by" (sp_law_by K)) (c_law_less : Kl P w K mg base 3 "_law_less" (sp_law_less K)) : Kl P w K mg base 4 "_law_point" (sp_law_point K) := by
  have nd := sc__law_point.nd
  refine Kl.by_body D sc__law_point (fun vs H Q E h => ?_) (fun f cdv A outer s H vs Q E hr h => ?_)
  · obtain ⟨_, _, _, _, rfl, _⟩ := h
    rfl
  · obtain ⟨qa, sp, qn, s, rfl, hq, hb, hs, hc, q⟩ := h
    have hu1 := hu_of hr
    refine ⟨_, (pss_cons (ps_if (pt_cmpR op_eq (pe_ix ix_tup (pv 0) pe_int (fun _ _ => rfl)) pe_str (nomark _)) (pss_cons (ps_par (i := 2) (j := 3) (by rfl) nd rfl rfl (by decide) rfl rfl (pa_cons (pe_ix ix_tup (pv 0) pe_int (fun _ _ => rfl)) (pa_cons (pe_k c_law_plus  hr (by decide) (by rfl) (pa_cons (pe_ix ix_tup (pv 1) pe_int (fun _ _ => rfl)) (pa_cons (pe_ix ix_tup (pv 1) pe_int (fun _ _ => rfl)) pa_nil))) pa_nil)) (by rfl))
      (pss_cons (ps_set (i := 4) nd rfl (by first | exact Or.inl rfl | exact Or.inr rfl) (pe_ix ix_tup (pv 1) pe_int (fun _ _ => rfl)))
      (pss_one (ps_ret (pe_tup (pa_cons (pe_k c_law_by  hr (by decide) (by rfl) (pa_cons (pe_tup (pa_cons (pv 2) (pa_cons pe_int pa_nil))) (pa_cons (pe_k c_law_over  hr (by decide) (by rfl) (pa_cons (pv 3) (pa_cons (pv 4) pa_nil))) pa_nil))) (pa_cons (pe_k c_law_over  hr (by decide) (by rfl) (pa_cons (pe_k c_law_by  hr (by decide) (by rfl) (pa_cons (pe_tup (pa_cons (pe_op op_mulW (pe_op op_mul pe_int (pv 2)) (pv 2)) (pa_cons pe_int pa_nil))) (pa_cons (pv 3) pa_nil))) (pa_cons (pe_k c_law_by  hr (by decide) (by rfl) (pa_cons (pv 4) (pa_cons (pv 4) pa_nil))) pa_nil))) pa_nil))))))) pss_nil)
      (pss_cons (ps_if (pt_cmpR op_eq (pe_ix ix_tup (pv 0) pe_int (fun _ _ => rfl)) pe_str (nomark _)) (pss_cons (ps_asg (pv 1) (pg_tup rfl (pgs_cons (pg_name (i := 5) nd rfl (by first | exact Or.inl rfl | exact Or.inr rfl)) (pgs_cons (pg_name (i := 6) nd rfl (by first | exact Or.inl rfl | exact Or.inr rfl)) (pgs_cons (pg_name (i := 7) nd rfl (by first | exact Or.inl rfl | exact Or.inr rfl)) pgs_nil)))))
      (pss_one (ps_ret (pe_tup (pa_cons (pe_k c_law_by  hr (by decide) (by rfl) (pa_cons (pv 5) (pa_cons (pv 5) pa_nil))) (pa_cons (pe_k c_law_by  hr (by decide) (by rfl) (pa_cons (pv 5) (pa_cons (pe_k c_law_by  hr (by decide) (by rfl) (pa_cons (pv 6) (pa_cons (pv 7) pa_nil))) pa_nil))) pa_nil)))))) pss_nil)
      (pss_cons (ps_par3 (i := 2) (j := 8) (l := 9) (by rfl) nd rfl rfl rfl (by decide) (by decide) (by decide) rfl rfl rfl (pa_cons (pe_ix ix_tup (pv 0) pe_int (fun _ _ => rfl)) (pa_cons (pe_ix ix_tup (pv 1) pe_int (fun _ _ => rfl)) (pa_cons (pe_ix ix_tup (pv 1) pe_int (fun _ _ => rfl)) pa_nil))) (by rfl))
      (pss_cons (ps_set (i := 3) nd rfl (by first | exact Or.inl rfl | exact Or.inr rfl) (pe_k c_law_plus  hr (by decide) (by rfl) (pa_cons (pv 8) (pa_cons (pv 9) pa_nil))))
      (pss_one (ps_ret (pe_tup (pa_cons (pe_k c_law_over  hr (by decide) (by rfl) (pa_cons (pe_tup (pa_cons (pe_op op_mul pe_int (pv 2)) (pa_cons pe_int pa_nil))) (pa_cons (pv 3) pa_nil))) (pa_cons (pe_k c_law_over  hr (by decide) (by rfl) (pa_cons (pe_k c_law_by  hr (by decide) (by rfl) (pa_cons (pe_tup (pa_cons (pe_op op_mul pe_int (pv 2)) (pa_cons pe_int pa_nil))) (pa_cons (pe_k c_law_less  hr (by decide) (by rfl) (pa_cons (pv 8) (pa_cons (pv 9) pa_nil))) pa_nil))) (pa_cons (pv 3) pa_nil))) pa_nil))))))))), ?_⟩
    cases qn with
    | tri n =>
      obtain ⟨c1, c2, c3, rfl, b1, b2, b3, nz⟩ := cal_tri hc
      have hn : B 8 n := B.up (show B 7 n from hb) (by decide)
      replace hq : SqT K H qa [.str "triangle", .int n] := hq
      obtain ⟨pa, pb, pc, h0, h1, h2, h3⟩ : TrT K H sp (c1, c2, c3) := hs
      replace h1 : SqT K H pa (fq c1) := h1
      replace h2 : SqT K H pb (fq c2) := h2
      replace h3 : SqT K H pc (fq c3) := h3
      have nB : RB 8 ((n : Int) : Rat) := RB.int hn (by decide)
      have nnB : RB 19 ((2 * n * n : Int) : Rat) := RB.int (((B.lit (n := 2) (x := 2) (by decide)).mul hn).mul hn |>.up (by decide)) (by decide)
      refine ⟨_, rfl, qa, _, 0, _, rfl, rfl, hq, rfl, rfl, _, rfl, iteY (by simp) ?_⟩
      refine ⟨_, rfl, qa, _, 1, .int n, rfl, rfl, hq, rfl, _, rfl, sp, _, 0, .ref pa, rfl, rfl, h0, rfl, _, rfl, sp, _, 2, .ref pc, rfl, rfl, h0, rfl, ?_⟩
      have E0 : FrE K H [(pa, c1, 400), (pb, c2, 400), (pc, c3, 400)] := FrE.add (FrE.add (FrE.add FrE.nil h3 b3) h2 b2) h1 b1
      refine ⟨pa, pc, _, _, _, _, rfl, E0.get (by walk_at "mm"), E0.get (by walk_at "mm"), E0.rb (p := pa) (by walk_at "mm"), E0.rb (p := pc) (by walk_at "mm"), (by first | decide | omega), trivial, fun both nboth => ?_⟩
      obtain ⟨H1, eH_, s1, E1⟩ := stepE E0 nboth (RB.add (E0.rb (p := pa) (by walk_at "mm")) (E0.rb (p := pc) (by walk_at "mm")))
      rw [eH_]
      clear eH_
      refine ⟨_, _, rfl, ?_⟩
      first | refine sigN [some (.ref qa), some (.ref sp), some (.int (n)), some (.ref both), none, none, none, none, none, none] (by rfl) ?_ | refine sig [some (.ref qa), some (.ref sp), some (.int (n)), some (.ref both), none, none, none, none, none, none] (by rfl) ?_
      refine ⟨_, rfl, sp, _, 1, .ref pb, rfl, rfl, Same.tup s1 h0, rfl, ?_⟩
      first | refine sigN [some (.ref qa), some (.ref sp), some (.int (n)), some (.ref both), some (.ref pb), none, none, none, none, none] (by rfl) ?_ | refine sig [some (.ref qa), some (.ref sp), some (.int (n)), some (.ref both), some (.ref pb), none, none, none, none, none] (by rfl) ?_
      refine ⟨_, rfl, ?_⟩
      refine ⟨(by show 2 ≤ sizeLine; decide), fun tn ntn => ?_⟩
      obtain ⟨H2, eH_, s2, E2⟩ := litE E1 ntn (fq_int _).symm nB
      rw [eH_]
      clear eH_
      refine ⟨_, rfl, _, rfl, ?_⟩
      refine ⟨both, pb, _, _, _, _, rfl, E2.get (by walk_at "mm"), E2.get (by walk_at "mm"), E2.rb (p := both) (by walk_at "mm"), E2.rb (p := pb) (by walk_at "mm"), (by first | decide | omega), nz, fun part npart => ?_⟩
      obtain ⟨H3, eH_, s3, E3⟩ := stepE E2 npart (RB.div nz (E2.rb (p := both) (by walk_at "mm")) (E2.rb (p := pb) (by walk_at "mm")))
      rw [eH_]
      clear eH_
      refine ⟨tn, part, _, _, _, _, rfl, E3.get (by walk_at "mm"), E3.get (by walk_at "mm"), E3.rb (p := tn) (by walk_at "mm"), E3.rb (p := part) (by walk_at "mm"), (by first | decide | omega), trivial, fun x1 nx1 => ?_⟩
      obtain ⟨H4, eH_, s4, E4⟩ := stepE E3 nx1 (RB.mul (E3.rb (p := tn) (by walk_at "mm")) (E3.rb (p := part) (by walk_at "mm")))
      rw [eH_]
      clear eH_
      refine ⟨_, rfl, _, _, rfl, rfl, Or.inl ⟨by decide, by decide⟩, _, rfl, _, _, rfl, rfl, ((B.lit (n := 2) (x := 2) (by decide)).mul hn).mulW hn (by decide), ?_⟩
      refine ⟨(by show 2 ≤ sizeLine; decide), fun tnn ntnn => ?_⟩
      obtain ⟨H5, eH_, s5, E5⟩ := litE E4 ntnn (fq_int _).symm nnB
      rw [eH_]
      clear eH_
      refine ⟨_, rfl, ?_⟩
      refine ⟨tnn, both, _, _, _, _, rfl, E5.get (by walk_at "mm"), E5.get (by walk_at "mm"), E5.rb (p := tnn) (by walk_at "mm"), E5.rb (p := both) (by walk_at "mm"), (by first | decide | omega), trivial, fun nnb nnnb => ?_⟩
      obtain ⟨H6, eH_, s6, E6⟩ := stepE E5 nnnb (RB.mul (E5.rb (p := tnn) (by walk_at "mm")) (E5.rb (p := both) (by walk_at "mm")))
      rw [eH_]
      clear eH_
      refine ⟨_, rfl, _, rfl, ?_⟩
      refine ⟨pb, pb, _, _, _, _, rfl, E6.get (by walk_at "mm"), E6.get (by walk_at "mm"), E6.rb (p := pb) (by walk_at "mm"), E6.rb (p := pb) (by walk_at "mm"), (by first | decide | omega), trivial, fun bb nbb => ?_⟩
      obtain ⟨H7, eH_, s7, E7⟩ := stepE E6 nbb (RB.mul (E6.rb (p := pb) (by walk_at "mm")) (E6.rb (p := pb) (by walk_at "mm")))
      rw [eH_]
      clear eH_
      refine ⟨nnb, bb, _, _, _, _, rfl, E7.get (by walk_at "mm"), E7.get (by walk_at "mm"), E7.rb (p := nnb) (by walk_at "mm"), E7.rb (p := bb) (by walk_at "mm"), (by first | decide | omega), (qmul_ne nz nz), fun y1 ny1 => ?_⟩
      obtain ⟨H8, eH_, s8, E8⟩ := stepE E7 ny1 (RB.div (qmul_ne nz nz) (E7.rb (p := nnb) (by walk_at "mm")) (E7.rb (p := bb) (by walk_at "mm")))
      rw [eH_]
      clear eH_
      refine ⟨(by show 2 ≤ sizeLine; decide), fun r nr => ?_⟩
      have s9 := Same.new (H := H8) (p := r) (o := .tup [.ref x1, .ref y1]) nr
      have E9 := E8.same s9
      have ex := E9.get (p := x1) (by walk_at "mm")
      have e1 : (n : Rat) * ((c1 + c3) / c2) = (n : Rat) * (c1 + c3) / c2 := by
        rw [Rat.div_def, Rat.div_def, Rat.mul_assoc]
      rw [e1] at ex
      exact q r _ (some (tpt n (c1, c2, c3))) (s1.trans (s2.trans (s3.trans (s4.trans (s5.trans (s6.trans (s7.trans (s8.trans s9)))))))) ⟨x1, y1, tup_of upd_same, ex, E9.get (p := y1) (by walk_at "mm")⟩ rfl
    | con m n =>
      obtain ⟨c1, c2, c3, rfl, b1, b2, b3⟩ := cal_con hc
      replace hq : SqT K H qa [.str "concord", .int m, .int n] := hq
      obtain ⟨pa, pb, pc, h0, h1, h2, h3⟩ : TrT K H sp (c1, c2, c3) := hs
      replace h1 : SqT K H pa (fq c1) := h1
      replace h2 : SqT K H pb (fq c2) := h2
      replace h3 : SqT K H pc (fq c3) := h3
      refine ⟨_, rfl, qa, _, 0, _, rfl, rfl, hq, rfl, rfl, _, rfl, iteN (by decide +kernel) ?_⟩
      refine ⟨_, rfl, qa, _, 0, _, rfl, rfl, hq, rfl, rfl, _, rfl, iteY (by simp) ?_⟩
      refine ⟨_, rfl, sp, _, rfl, h0, rfl, _, _, rfl, _, _, rfl, _, _, rfl, rfl, ?_⟩
      first | refine sigN [some (.ref qa), some (.ref sp), none, none, none, some (.ref pa), some (.ref pb), some (.ref pc), none, none] (by rfl) ?_ | refine sig [some (.ref qa), some (.ref sp), none, none, none, some (.ref pa), some (.ref pb), some (.ref pc), none, none] (by rfl) ?_
      have E0 : FrE K H [(pa, c1, 900), (pb, c2, 900), (pc, c3, 900)] := FrE.add (FrE.add (FrE.add FrE.nil h3 b3) h2 b2) h1 b1
      refine ⟨_, rfl, _, rfl, ?_⟩
      refine ⟨pa, pa, _, _, _, _, rfl, E0.get (by walk_at "mm"), E0.get (by walk_at "mm"), E0.rb (p := pa) (by walk_at "mm"), E0.rb (p := pa) (by walk_at "mm"), (by first | decide | omega), trivial, fun x1 nx1 => ?_⟩
      obtain ⟨H1, eH_, s1, E1⟩ := stepE E0 nx1 (RB.mul (E0.rb (p := pa) (by walk_at "mm")) (E0.rb (p := pa) (by walk_at "mm")))
      rw [eH_]
      clear eH_
      refine ⟨_, rfl, _, rfl, _, rfl, ?_⟩
      refine ⟨pb, pc, _, _, _, _, rfl, E1.get (by walk_at "mm"), E1.get (by walk_at "mm"), E1.rb (p := pb) (by walk_at "mm"), E1.rb (p := pc) (by walk_at "mm"), (by first | decide | omega), trivial, fun uv nuv => ?_⟩
      obtain ⟨H2, eH_, s2, E2⟩ := stepE E1 nuv (RB.mul (E1.rb (p := pb) (by walk_at "mm")) (E1.rb (p := pc) (by walk_at "mm")))
      rw [eH_]
      clear eH_
      refine ⟨pa, uv, _, _, _, _, rfl, E2.get (by walk_at "mm"), E2.get (by walk_at "mm"), E2.rb (p := pa) (by walk_at "mm"), E2.rb (p := uv) (by walk_at "mm"), (by first | decide | omega), trivial, fun y1 ny1 => ?_⟩
      obtain ⟨H3, eH_, s3, E3⟩ := stepE E2 ny1 (RB.mul (E2.rb (p := pa) (by walk_at "mm")) (E2.rb (p := uv) (by walk_at "mm")))
      rw [eH_]
      clear eH_
      refine ⟨(by show 2 ≤ sizeLine; decide), fun r nr => ?_⟩
      have s9 := Same.new (H := H3) (p := r) (o := .tup [.ref x1, .ref y1]) nr
      have E9 := E3.same s9
      exact q r _ (some (c1 * c1, c1 * (c2 * c3))) (s1.trans (s2.trans (s3.trans s9))) ⟨x1, y1, tup_of upd_same, E9.get (p := x1) (by walk_at "mm"), E9.get (p := y1) (by walk_at "mm")⟩ rfl
    | cub n =>
      obtain ⟨x, y, rfl, bx, byy, nz⟩ := cal_cub hc
      have hn : B 8 n := B.up (show B 3 n from hb) (by decide)
      replace hq : SqT K H qa [.str "cubes", .int n] := hq
      obtain ⟨a, b, h0, h1, h2⟩ := hs
      have n12 : RB 12 ((12 * n : Int) : Rat) := RB.int (((B.lit (n := 4) (x := 12) (by decide)).mul hn).up (by decide)) (by decide)
      have n36 : RB 14 ((36 * n : Int) : Rat) := RB.int (((B.lit (n := 6) (x := 36) (by decide)).mul hn).up (by decide)) (by decide)
      refine ⟨_, rfl, qa, _, 0, _, rfl, rfl, hq, rfl, rfl, _, rfl, iteN (by decide +kernel) ?_⟩
      refine ⟨_, rfl, qa, _, 0, _, rfl, rfl, hq, rfl, rfl, _, rfl, iteN (by decide +kernel) ?_⟩
      refine ⟨_, rfl, qa, _, 1, .int n, rfl, rfl, hq, rfl, _, rfl, sp, _, 0, .ref a, rfl, rfl, h0, rfl, _, rfl, sp, _, 1, .ref b, rfl, rfl, h0, rfl, _, _, _, rfl, ?_⟩
      first | refine sigN [some (.ref qa), some (.ref sp), some (.int (n)), none, none, none, none, none, some (.ref a), some (.ref b)] (by rfl) ?_ | refine sig [some (.ref qa), some (.ref sp), some (.int (n)), none, none, none, none, none, some (.ref a), some (.ref b)] (by rfl) ?_
      have E0 : FrE K H [(a, x, 10), (b, y, 10)] := FrE.add (FrE.add FrE.nil h2 byy) h1 bx
      refine ⟨_, rfl, _, rfl, ?_⟩
      refine ⟨a, b, _, _, _, _, rfl, E0.get (by walk_at "mm"), E0.get (by walk_at "mm"), E0.rb (p := a) (by walk_at "mm"), E0.rb (p := b) (by walk_at "mm"), (by first | decide | omega), trivial, fun both nboth => ?_⟩
      obtain ⟨H1, eH_, s1, E1⟩ := stepE E0 nboth (RB.add (E0.rb (p := a) (by walk_at "mm")) (E0.rb (p := b) (by walk_at "mm")))
      rw [eH_]
      clear eH_
      first | refine sigN [some (.ref qa), some (.ref sp), some (.int (n)), some (.ref both), none, none, none, none, some (.ref a), some (.ref b)] (by rfl) ?_ | refine sig [some (.ref qa), some (.ref sp), some (.int (n)), some (.ref both), none, none, none, none, some (.ref a), some (.ref b)] (by rfl) ?_
      refine ⟨_, rfl, _, _, rfl, rfl, Or.inl ⟨by decide, by decide⟩, ?_⟩
      refine ⟨(by show 2 ≤ sizeLine; decide), fun tn ntn => ?_⟩
      obtain ⟨H2, eH_, s2, E2⟩ := litE E1 ntn (fq_int _).symm n12
      rw [eH_]
      clear eH_
      refine ⟨_, rfl, ?_⟩
      refine ⟨tn, both, _, _, _, _, rfl, E2.get (by walk_at "mm"), E2.get (by walk_at "mm"), E2.rb (p := tn) (by walk_at "mm"), E2.rb (p := both) (by walk_at "mm"), (by first | decide | omega), nz, fun xx nxx => ?_⟩
      obtain ⟨H3, eH_, s3, E3⟩ := stepE E2 nxx (RB.div nz (E2.rb (p := tn) (by walk_at "mm")) (E2.rb (p := both) (by walk_at "mm")))
      rw [eH_]
      clear eH_
      refine ⟨_, rfl, _, _, rfl, rfl, Or.inl ⟨by decide, by decide⟩, ?_⟩
      refine ⟨(by show 2 ≤ sizeLine; decide), fun tm ntm => ?_⟩
      obtain ⟨H4, eH_, s4, E4⟩ := litE E3 ntm (fq_int _).symm n36
      rw [eH_]
      clear eH_
      refine ⟨_, rfl, _, rfl, ?_⟩
      refine ⟨a, b, _, _, _, _, rfl, E4.get (by walk_at "mm"), E4.get (by walk_at "mm"), E4.rb (p := a) (by walk_at "mm"), E4.rb (p := b) (by walk_at "mm"), (by first | decide | omega), trivial, fun d nd => ?_⟩
      obtain ⟨H5, eH_, s5, E5⟩ := stepE E4 nd (RB.sub (E4.rb (p := a) (by walk_at "mm")) (E4.rb (p := b) (by walk_at "mm")))
      rw [eH_]
      clear eH_
      refine ⟨tm, d, _, _, _, _, rfl, E5.get (by walk_at "mm"), E5.get (by walk_at "mm"), E5.rb (p := tm) (by walk_at "mm"), E5.rb (p := d) (by walk_at "mm"), (by first | decide | omega), trivial, fun md nmd => ?_⟩
      obtain ⟨H6, eH_, s6, E6⟩ := stepE E5 nmd (RB.mul (E5.rb (p := tm) (by walk_at "mm")) (E5.rb (p := d) (by walk_at "mm")))
      rw [eH_]
      clear eH_
      refine ⟨_, rfl, ?_⟩
      refine ⟨md, both, _, _, _, _, rfl, E6.get (by walk_at "mm"), E6.get (by walk_at "mm"), E6.rb (p := md) (by walk_at "mm"), E6.rb (p := both) (by walk_at "mm"), (by first | decide | omega), nz, fun yy nyy => ?_⟩
      obtain ⟨H7, eH_, s7, E7⟩ := stepE E6 nyy (RB.div nz (E6.rb (p := md) (by walk_at "mm")) (E6.rb (p := both) (by walk_at "mm")))
      rw [eH_]
      clear eH_
      refine ⟨(by show 2 ≤ sizeLine; decide), fun r nr => ?_⟩
      have s8 := Same.new (H := H7) (p := r) (o := .tup [.ref xx, .ref yy]) nr
      have E8 := E7.same s8
      exact q r _ (some (cpt n x y)) (s1.trans (s2.trans (s3.trans (s4.trans (s5.trans (s6.trans (s7.trans s8))))))) ⟨xx, yy, tup_of upd_same, E8.get (p := xx) (by walk_at "mm"), E8.get (p := yy) (by walk_at "mm")⟩ rfl
end
end K55
set_option Elab.async false
set_option linter.all false
set_option maxRecDepth 100000
set_option maxHeartbeats 4000000
namespace K55
open PySem PySem.Spec PyProof.Rows L2 Gd QM EcM EcP
local macro_rules | `(tactic| walk_at "mm") => `(tactic| (repeat (first | exact List.mem_cons_self | apply List.mem_cons_of_mem)))
section
variable {P : Program} {w : World} {K : PySem.W.Frag} {mg : Str → Option Value} {base : Heap}
def sp_law_told_triangle : PySem.W.Frag → Sp := sp_triangle_of
abbrev s__law_told_triangle : Stmt := topS 59
theorem sc__law_told_triangle : FnScope ["n", "point", "x", "y", "square", "a", "b", "c"] ["n", "point"] (defScope s__law_told_triangle) := ⟨rfl, rfl, rfl, by decide +kernel, rfl, by decide +kernel, by decide +kernel⟩
theorem k_law_told_triangle (T : Tx K mg) (D : Df K mg "_law_told_triangle" s__law_told_triangle ["n", "point"]) (c_law_by : Kl P w K mg base 3 "_law_by" (sp_law_by K)) (c_law_amount : Kl P w K mg base 1 "_law_amount" (sp_law_amount K)) (c_law_over : Kl P w K mg base 3 "_law_over" (sp_law_over K)) (c_law_less : Kl P w K mg base 3 "_law_less" (sp_law_less K)) (c_law_plus : Kl P w K mg base 3 "_law_plus" (sp_law_plus K)) : Kl P w K mg base 4 "_law_told_triangle" (sp_law_told_triangle K) := by
  have nd := sc__law_told_triangle.nd
  refine Kl.by_body D sc__law_told_triangle (fun vs H Q E h => ?_) (fun f cdv A outer s H vs Q E hr h => ?_)
  · obtain ⟨_, _, _, rfl, _⟩ := h
    rfl
  · obtain ⟨n, p, S, rfl, hn, hp, hB, q⟩ := h
    have hu1 := hu_of hr
    refine ⟨_, (pss_cons (ps_if (PW.pt (pw_or (pt_cmpR (op_eqD hr.units) (pv 1) (pe_tup pa_nil) (nomark _)) (pw_or1 (pt_cmpR op_eq (pe_ix ix_tup (pe_ix ix_tup (pv 1) pe_int (fun _ _ => rfl)) pe_int (fun _ _ => rfl)) pe_int (nomark _))))) (pss_one (ps_ret pe_non)) pss_nil)
      (pss_cons (ps_asg (pv 1) (pg_tup rfl (pgs_cons (pg_name (i := 2) nd rfl (by first | exact Or.inl rfl | exact Or.inr rfl)) (pgs_cons (pg_name (i := 3) nd rfl (by first | exact Or.inl rfl | exact Or.inr rfl)) pgs_nil))))
      (pss_cons (ps_set (i := 4) nd rfl (by first | exact Or.inl rfl | exact Or.inr rfl) (pe_k c_law_by  hr (by decide) (by rfl) (pa_cons (pv 2) (pa_cons (pv 2) pa_nil))))
      (pss_cons (ps_set (i := 5) nd rfl (by first | exact Or.inl rfl | exact Or.inr rfl) (pe_k c_law_amount  hr (by decide) (by rfl) (pa_cons (pe_k c_law_over  hr (by decide) (by rfl) (pa_cons (pe_k c_law_less  hr (by decide) (by rfl) (pa_cons (pv 4) (pa_cons (pe_tup (pa_cons (pe_op op_mulW (pv 0) (pv 0)) (pa_cons pe_int pa_nil))) pa_nil))) (pa_cons (pv 3) pa_nil))) pa_nil)))
      (pss_cons (ps_par (i := 6) (j := 7) (by rfl) nd rfl rfl (by decide) rfl rfl (pa_cons (pe_k c_law_amount  hr (by decide) (by rfl) (pa_cons (pe_k c_law_over  hr (by decide) (by rfl) (pa_cons (pe_k c_law_by  hr (by decide) (by rfl) (pa_cons (pe_tup (pa_cons (pe_op op_mul pe_int (pv 0)) (pa_cons pe_int pa_nil))) (pa_cons (pv 2) pa_nil))) (pa_cons (pv 3) pa_nil))) pa_nil)) (pa_cons (pe_k c_law_amount  hr (by decide) (by rfl) (pa_cons (pe_k c_law_over  hr (by decide) (by rfl) (pa_cons (pe_k c_law_plus  hr (by decide) (by rfl) (pa_cons (pv 4) (pa_cons (pe_tup (pa_cons (pe_op op_mulW (pv 0) (pv 0)) (pa_cons pe_int pa_nil))) pa_nil))) (pa_cons (pv 3) pa_nil))) pa_nil)) pa_nil)) (by rfl))
      (pss_one (ps_ret (pe_ifExp (pt_cmpR op_le (pe_op op_mulW (pe_ix ix_tup (pv 5) pe_int (fun _ _ => rfl)) (pe_ix ix_tup (pv 6) pe_int (fun _ _ => rfl))) (pe_op op_mulW (pe_ix ix_tup (pv 6) pe_int (fun _ _ => rfl)) (pe_ix ix_tup (pv 5) pe_int (fun _ _ => rfl))) (nomark _)) (pe_tup (pa_cons (pv 5) (pa_cons (pv 6) (pa_cons (pv 7) pa_nil)))) (pe_tup (pa_cons (pv 6) (pa_cons (pv 5) (pa_cons (pv 7) pa_nil)))))))))))), ?_⟩
    have nnB : RB 16 ((n * n : Int) : Rat) := RB.int ((hn.mul hn).up (by decide)) (by decide)
    have n2B : RB 10 ((2 * n : Int) : Rat) := RB.int (((B.lit (n := 2) (x := 2) (by decide)).mul hn).up (by decide)) (by decide)
    refine ⟨_, rfl, (by show 0 ≤ sizeLine; decide), fun e ne => ?_⟩
    have s1 := Same.new (H := H) (p := e) (o := .tup []) ne
    have ge : upd H e (.tup []) e = some (.tup []) := upd_same
    generalize upd H e (.tup []) = H1 at s1 ge ⊢
    cases S with
    | none =>
      refine ⟨dP none, .tuple [], dp_pt (hp.same s1), dp0 (tup_of ge), sh_P none, rfl, _, rfl, iteT ?_⟩
      exact q _ _ s1 rfl
    | some S =>
      obtain ⟨x, y⟩ := S
      obtain ⟨a, b, h1, h2, h3⟩ := hp
      obtain ⟨xB, yB⟩ := hB
      refine ⟨dP (some (x, y)), .tuple [], dp_pt ⟨a, b, Same.tup s1 h1, Same.tup s1 h2, Same.tup s1 h3⟩, dp0 (tup_of ge), sh_P (some (x, y)), rfl, _, rfl, iteF ?_⟩
      have h1' := Same.tup s1 h1
      refine ⟨_, rfl, p, _, 1, .ref b, rfl, rfl, h1', rfl, b, _, 0, .int y.num, rfl, rfl, Same.tup s1 h3, rfl, rfl, _, rfl, ?_⟩
      rw [dec_int]
      by_cases y0 : y = 0
      · refine iteY (by rw [y0]; rfl) ?_
        refine q _ _ s1 ?_
        rw [show told n (some (x, y)) = none from if_pos y0]
        rfl
      refine iteN (by simpa using num_ne y0) ?_
      rw [told_turn y0] at q
      refine ⟨_, rfl, p, _, rfl, h1', rfl, _, _, rfl, _, _, rfl, rfl, ?_⟩
      first | refine sigN [some (.int (n)), some (.ref p), some (.ref a), some (.ref b), none, none, none, none] (by rfl) ?_ | refine sig [some (.int (n)), some (.ref p), some (.ref a), some (.ref b), none, none, none, none] (by rfl) ?_
      have E0 : FrE K H1 [(a, x, 800), (b, y, 1700)] := FrE.add (FrE.add FrE.nil (Same.tup s1 h3) yB) (Same.tup s1 h2) xB
      refine ⟨_, rfl, _, rfl, ?_⟩
      refine ⟨a, a, _, _, _, _, rfl, E0.get (by walk_at "mm"), E0.get (by walk_at "mm"), E0.rb (p := a) (by walk_at "mm"), E0.rb (p := a) (by walk_at "mm"), (by first | decide | omega), trivial, fun xx nxx => ?_⟩
      obtain ⟨H3, eH_, s3, E1⟩ := stepE E0 nxx (RB.mul (E0.rb (p := a) (by walk_at "mm")) (E0.rb (p := a) (by walk_at "mm")))
      rw [eH_]
      clear eH_
      first | refine sigN [some (.int (n)), some (.ref p), some (.ref a), some (.ref b), some (.ref xx), none, none, none] (by rfl) ?_ | refine sig [some (.int (n)), some (.ref p), some (.ref a), some (.ref b), some (.ref xx), none, none, none] (by rfl) ?_
      refine ⟨_, rfl, _, rfl, _, rfl, _, _, rfl, rfl, hn.mulW hn (by decide), ?_⟩
      refine ⟨(by show 2 ≤ sizeLine; decide), fun nn nnn => ?_⟩
      obtain ⟨H4, eH_, s4, E2⟩ := litE E1 nnn (fq_int _).symm nnB
      rw [eH_]
      clear eH_
      refine ⟨xx, nn, _, _, _, _, rfl, E2.get (by walk_at "mm"), E2.get (by walk_at "mm"), E2.rb (p := xx) (by walk_at "mm"), E2.rb (p := nn) (by walk_at "mm"), (by first | decide | omega), trivial, fun f1 nf1 => ?_⟩
      obtain ⟨H5, eH_, s5, E3⟩ := stepE E2 nf1 (RB.sub (E2.rb (p := xx) (by walk_at "mm")) (E2.rb (p := nn) (by walk_at "mm")))
      rw [eH_]
      clear eH_
      refine ⟨_, rfl, ?_⟩
      refine ⟨f1, b, _, _, _, _, rfl, E3.get (by walk_at "mm"), E3.get (by walk_at "mm"), E3.rb (p := f1) (by walk_at "mm"), E3.rb (p := b) (by walk_at "mm"), (by first | decide | omega), y0, fun f2 nf2 => ?_⟩
      obtain ⟨H6, eH_, s6, E4⟩ := stepE E3 nf2 (RB.div y0 (E3.rb (p := f1) (by walk_at "mm")) (E3.rb (p := b) (by walk_at "mm")))
      rw [eH_]
      clear eH_
      refine ⟨f2, _, rfl, E4.get (p := f2) (by walk_at "mm"), fun f3 nf3 => ?_⟩
      obtain ⟨H7, eH_, s7, E5⟩ := stepE E4 nf3 (qa_RB (E4.rb (p := f2) (by walk_at "mm")))
      rw [eH_]
      clear eH_
      first | refine sigN [some (.int (n)), some (.ref p), some (.ref a), some (.ref b), some (.ref xx), some (.ref f3), none, none] (by rfl) ?_ | refine sig [some (.int (n)), some (.ref p), some (.ref a), some (.ref b), some (.ref xx), some (.ref f3), none, none] (by rfl) ?_
      refine ⟨_, rfl, _, _, rfl, rfl, Or.inl ⟨by decide, by decide⟩, ?_⟩
      refine ⟨(by show 2 ≤ sizeLine; decide), fun tn ntn => ?_⟩
      obtain ⟨H8, eH_, s8, E6⟩ := litE E5 ntn (fq_int _).symm n2B
      rw [eH_]
      clear eH_
      refine ⟨_, rfl, ?_⟩
      refine ⟨tn, a, _, _, _, _, rfl, E6.get (by walk_at "mm"), E6.get (by walk_at "mm"), E6.rb (p := tn) (by walk_at "mm"), E6.rb (p := a) (by walk_at "mm"), (by first | decide | omega), trivial, fun g1 ng1 => ?_⟩
      obtain ⟨H9, eH_, s9, E7⟩ := stepE E6 ng1 (RB.mul (E6.rb (p := tn) (by walk_at "mm")) (E6.rb (p := a) (by walk_at "mm")))
      rw [eH_]
      clear eH_
      refine ⟨_, rfl, ?_⟩
      refine ⟨g1, b, _, _, _, _, rfl, E7.get (by walk_at "mm"), E7.get (by walk_at "mm"), E7.rb (p := g1) (by walk_at "mm"), E7.rb (p := b) (by walk_at "mm"), (by first | decide | omega), y0, fun g2 ng2 => ?_⟩
      obtain ⟨Ha, eH_, sa, E8⟩ := stepE E7 ng2 (RB.div y0 (E7.rb (p := g1) (by walk_at "mm")) (E7.rb (p := b) (by walk_at "mm")))
      rw [eH_]
      clear eH_
      refine ⟨g2, _, rfl, E8.get (p := g2) (by walk_at "mm"), fun g3 ng3 => ?_⟩
      obtain ⟨Hb, eH_, sb, E9⟩ := stepE E8 ng3 (qa_RB (E8.rb (p := g2) (by walk_at "mm")))
      rw [eH_]
      clear eH_
      refine ⟨_, rfl, _, rfl, _, rfl, _, _, rfl, rfl, hn.mulW hn (by decide), ?_⟩
      refine ⟨(by show 2 ≤ sizeLine; decide), fun nn2 nnn2 => ?_⟩
      obtain ⟨Hb2, eH_, sb2, E92⟩ := litE E9 nnn2 (fq_int _).symm nnB
      rw [eH_]
      clear eH_
      refine ⟨xx, nn2, _, _, _, _, rfl, E92.get (by walk_at "mm"), E92.get (by walk_at "mm"), E92.rb (p := xx) (by walk_at "mm"), E92.rb (p := nn2) (by walk_at "mm"), (by first | decide | omega), trivial, fun k1 nk1 => ?_⟩
      obtain ⟨Hc, eH_, sc, E10⟩ := stepE E92 nk1 (RB.add (E92.rb (p := xx) (by walk_at "mm")) (E92.rb (p := nn2) (by walk_at "mm")))
      rw [eH_]
      clear eH_
      refine ⟨_, rfl, ?_⟩
      refine ⟨k1, b, _, _, _, _, rfl, E10.get (by walk_at "mm"), E10.get (by walk_at "mm"), E10.rb (p := k1) (by walk_at "mm"), E10.rb (p := b) (by walk_at "mm"), (by first | decide | omega), y0, fun k2 nk2 => ?_⟩
      obtain ⟨Hd, eH_, sd, E11⟩ := stepE E10 nk2 (RB.div y0 (E10.rb (p := k1) (by walk_at "mm")) (E10.rb (p := b) (by walk_at "mm")))
      rw [eH_]
      clear eH_
      refine ⟨k2, _, rfl, E11.get (p := k2) (by walk_at "mm"), fun k3 nk3 => ?_⟩
      obtain ⟨He, eH_, se, E12⟩ := stepE E11 nk3 (qa_RB (E11.rb (p := k2) (by walk_at "mm")))
      rw [eH_]
      clear eH_
      refine ⟨_, _, rfl, ?_⟩
      first | refine sigN [some (.int (n)), some (.ref p), some (.ref a), some (.ref b), some (.ref xx), some (.ref f3), some (.ref g3), some (.ref k3)] (by rfl) ?_ | refine sig [some (.int (n)), some (.ref p), some (.ref a), some (.ref b), some (.ref xx), some (.ref f3), some (.ref g3), some (.ref k3)] (by rfl) ?_
      have sA := s1.trans (s3.trans (s4.trans (s5.trans (s6.trans (s7.trans (s8.trans (s9.trans (sa.trans (sb.trans (sb2.trans (sc.trans (sd.trans se))))))))))))
      have gf := E12.get (p := f3) (by walk_at "mm")
      have gg := E12.get (p := g3) (by walk_at "mm")
      have gk := E12.get (p := k3) (by walk_at "mm")
      have bf := E12.rb (p := f3) (by walk_at "mm")
      have bg := E12.rb (p := g3) (by walk_at "mm")
      obtain ⟨A, hA⟩ : ∃ A, qa ((x * x - ((n * n : Int) : Rat)) / y) = A := ⟨_, rfl⟩
      obtain ⟨C, hC⟩ : ∃ A, qa (((2 * n : Int) : Rat) * x / y) = A := ⟨_, rfl⟩
      rw [hA] at gf bf q
      rw [hC] at gg bg q
      refine ⟨_, rfl, f3, _, 0, _, rfl, rfl, gf, rfl, _, rfl, g3, _, 1, _, rfl, rfl, gg, rfl, _, _, rfl, rfl, bf.n.mulW bg.d (by decide), _, rfl, g3, _, 0, _, rfl, rfl, gg, rfl, _, rfl, f3, _, 1, _, rfl, rfl, gf, rfl, _, _, rfl, rfl, bg.n.mulW bf.d (by decide), _, _, rfl, rfl, _, rfl, ?_⟩
      by_cases hb : bel C A
      · refine iteN (by
          have : C.num * (A.den : Int) < A.num * (C.den : Int) := hb
          simpa using this) ?_
        rw [if_pos hb] at q
        refine ⟨_, rfl, _, rfl, _, rfl, (by show 3 ≤ sizeLine; decide), fun r nr => ?_⟩
        have sr := Same.new (H := He) (p := r) (o := .tup [.ref g3, .ref f3, .ref k3]) nr
        exact q _ _ (sA.trans sr) ⟨r, rfl, g3, f3, k3, tup_of upd_same, Same.tup sr gg, Same.tup sr gf, Same.tup sr gk⟩
      · refine iteY (decide_eq_true (Int.not_lt.mp hb)) ?_
        rw [if_neg hb] at q
        refine ⟨_, rfl, _, rfl, _, rfl, (by show 3 ≤ sizeLine; decide), fun r nr => ?_⟩
        have sr := Same.new (H := He) (p := r) (o := .tup [.ref f3, .ref g3, .ref k3]) nr
        exact q _ _ (sA.trans sr) ⟨r, rfl, f3, g3, k3, tup_of upd_same, Same.tup sr gf, Same.tup sr gg, Same.tup sr gk⟩
def sp_law_told (K : PySem.W.Frag) : Sp := fun vs H Q _ => ∃ (qa p : Addr) (qn : Qn) (S : Pt), vs = [.ref qa, .ref p] ∧ SqT K H qa qn.vs ∧ qn.Bd ∧ PtT K H p S ∧ Tab qn S ∧ ∀ o v H', Told qn S o → Same H H' → SolO K H' v o → Q v H'
abbrev s__law_told : Stmt := topS 60
theorem sc__law_told : FnScope ["question", "point", "roots", "k", "below", "whole"] ["question", "point"] (defScope s__law_told) := ⟨rfl, rfl, rfl, by decide +kernel, rfl, by decide +kernel, by decide +kernel⟩
theorem k_law_told (T : Tx K mg) (D : Df K mg "_law_told" s__law_told ["question", "point"]) (c_law_told_triangle : Kl P w K mg base 4 "_law_told_triangle" (sp_law_told_triangle K)) (c_law_by : Kl P w K mg base 3 "_law_by" (sp_law_by K)) (c_law_over : Kl P w K mg base 3 "_law_over" (sp_law_over K)) (c_law_root_of : Kl P w K mg base 2 "_law_root_of" (sp_law_root_of K)) (c_law_plus : Kl P w K mg base 3 "_law_plus" (sp_law_plus K)) (c_law_less : Kl P w K mg base 3 "_law_less" (sp_law_less K)) : Kl P w K mg base 5 "_law_told" (sp_law_told K) := by
  have nd := sc__law_told.nd
  refine Kl.by_body D sc__law_told (fun vs H Q E h => ?_) (fun f cdv A outer s H vs Q E hr h => ?_)
  · obtain ⟨_, _, _, _, rfl, _⟩ := h
    rfl
  · obtain ⟨qa, p, qn, S, rfl, hq, hb, hp, ht, q⟩ := h
    have hu1 := hu_of hr
    refine ⟨_, (pss_cons (ps_if (pt_cmpR op_eq (pe_ix ix_tup (pv 0) pe_int (fun _ _ => rfl)) pe_str (nomark _)) (pss_one (ps_ret (pe_k c_law_told_triangle  hr (by decide) (by rfl) (pa_cons (pe_ix ix_tup (pv 0) pe_int (fun _ _ => rfl)) (pa_cons (pv 1) pa_nil))))) pss_nil)
      (pss_cons (ps_if (pt_cmpR op_eq (pe_ix ix_tup (pv 0) pe_int (fun _ _ => rfl)) pe_str (nomark _)) (pss_cons (ps_if (PW.pt (pw_or (pt_cmpR (op_eqD hr.units) (pv 1) (pe_tup pa_nil) (nomark _)) (pw_or1 (pt_cmpR op_eq (pe_ix ix_tup (pe_ix ix_tup (pv 1) pe_int (fun _ _ => rfl)) pe_int (fun _ _ => rfl)) pe_int (nomark _))))) (pss_one (ps_ret pe_non)) pss_nil)
      (pss_cons (ps_setLc (i := 2) (own := [("k", 3)]) (g := gName 3) rfl nd rfl rfl (sw_true rfl rfl rfl (by decide +kernel)) (pi_tup (pe_tup (pa_cons pe_int (pa_cons (pe_ix ix_tup (pv 0) pe_int (fun _ _ => rfl)) (pa_cons (pe_ix ix_tup (pv 0) pe_int (fun _ _ => rfl)) pa_nil))))) (blkOk_by (N := ["question", "point", "roots", "k", "below", "whole"]) (sc := defScope s__law_told) (by decide +kernel)) (fun _ _ _ _ _ => (pg_name (i := 3) nd rfl (by first | exact Or.inl rfl | exact Or.inr rfl))) (fun _ _ _ _ _ => pts_nil) (fun _ _ _ _ _ => (pe_k c_law_root_of  hr (by decide) (by rfl) (pa_cons (pe_k c_law_plus  hr (by decide) (by rfl) (pa_cons (pe_ix (ix_tupK (K := K) rfl) (pv 1) pe_int (fun _ _ => rfl)) (pa_cons (pe_tup (pa_cons (pv 3) (pa_cons pe_int pa_nil))) pa_nil))) pa_nil))))
      (pss_one (ps_ret (pe_ifExp (pt_cmpR (op_noneInT hr.units) pe_non (pv 2) rfl) pe_non (pe_tup (pa_cons (pe_ix ix_list (pv 2) pe_int (fun _ _ => rfl)) (pa_cons (pe_ix ix_list (pv 2) pe_int (fun _ _ => rfl)) (pa_cons (pe_ix ix_list (pv 2) pe_int (fun _ _ => rfl)) pa_nil))))))))) pss_nil)
      (pss_cons (ps_if (pt_cmpR (op_eqD hr.units) (pv 1) (pe_tup pa_nil) (nomark _)) (pss_one (ps_ret pe_non)) pss_nil)
      (pss_cons (ps_par (i := 4) (j := 5) (by rfl) nd rfl rfl (by decide) rfl rfl (pa_cons (pe_k c_law_by  hr (by decide) (by rfl) (pa_cons (pe_tup (pa_cons pe_int (pa_cons pe_int pa_nil))) (pa_cons (pe_ix ix_tup (pv 1) pe_int (fun _ _ => rfl)) pa_nil))) (pa_cons (pe_tup (pa_cons (pe_op op_mul pe_int (pe_ix ix_tup (pv 0) pe_int (fun _ _ => rfl))) (pa_cons pe_int pa_nil))) pa_nil)) (by rfl))
      (pss_one (ps_ret (pe_tup (pa_cons (pe_k c_law_over  hr (by decide) (by rfl) (pa_cons (pe_k c_law_plus  hr (by decide) (by rfl) (pa_cons (pv 5) (pa_cons (pe_ix ix_tup (pv 1) pe_int (fun _ _ => rfl)) pa_nil))) (pa_cons (pv 4) pa_nil))) (pa_cons (pe_k c_law_over  hr (by decide) (by rfl) (pa_cons (pe_k c_law_less  hr (by decide) (by rfl) (pa_cons (pv 5) (pa_cons (pe_ix ix_tup (pv 1) pe_int (fun _ _ => rfl)) pa_nil))) (pa_cons (pv 4) pa_nil))) pa_nil))))))))), ?_⟩
    cases qn with
    | tri n =>
      have hn : B 8 n := B.up (show B 7 n from hb) (by decide)
      replace hq : SqT K H qa [.str "triangle", .int n] := hq
      refine ⟨_, rfl, qa, _, 0, _, rfl, rfl, hq, rfl, rfl, _, rfl, iteY (by simp) ?_⟩
      refine ⟨_, rfl, qa, _, 1, .int n, rfl, rfl, hq, rfl, _, rfl, n, p, S, rfl, hn, hp, ht, fun v H1 s1 hv => ?_⟩
      exact q ((told n S).map l3) v H1 rfl s1 (tro_sol hv)
    | con m n =>
      have hm : B 20 m := B.up (show B 8 m from hb.1) (by decide)
      have hn : B 20 n := B.up (show B 8 n from hb.2) (by decide)
      replace hq : SqT K H qa [.str "concord", .int m, .int n] := hq
      refine ⟨_, rfl, qa, _, 0, _, rfl, rfl, hq, rfl, rfl, _, rfl, iteN (by decide +kernel) ?_⟩
      refine ⟨_, rfl, qa, _, 0, _, rfl, rfl, hq, rfl, rfl, _, rfl, iteY (by simp) ?_⟩
      have q' : ∀ o v H', Con m n S o → Same H H' → TrO K H' v o → Q v H' := fun o v H' ho s hv => q (o.map l3) v H' ⟨o, ho, rfl⟩ s (tro_sol hv)
      clear q
      have q := q'
      clear q'
      replace ht : HB 3800 S := ht
      refine ⟨_, rfl, (by show 0 ≤ sizeLine; decide), fun e ne => ?_⟩
      have s1 := Same.new (H := H) (p := e) (o := .tup []) ne
      have ge : upd H e (.tup []) e = some (.tup []) := upd_same
      generalize upd H e (.tup []) = H1 at s1 ge ⊢
      cases S with
      | none =>
        refine ⟨dP none, .tuple [], dp_pt (hp.same s1), dp0 (tup_of ge), sh_P none, rfl, _, rfl, iteT ?_⟩
        exact q none _ _ rfl s1 rfl
      | some S =>
        obtain ⟨x, y⟩ := S
        obtain ⟨a, b, h1, h2, h3⟩ := hp
        refine ⟨dP (some (x, y)), .tuple [], dp_pt ⟨a, b, Same.tup s1 h1, Same.tup s1 h2, Same.tup s1 h3⟩, dp0 (tup_of ge), sh_P (some (x, y)), rfl, _, rfl, iteF ?_⟩
        refine ⟨_, rfl, p, _, 0, .ref a, rfl, rfl, Same.tup s1 h1, rfl, a, _, 0, .int x.num, rfl, rfl, Same.tup s1 h2, rfl, rfl, _, rfl, ?_⟩
        rw [dec_int]
        have s02 := s1
        have h1' := Same.tup s02 h1
        have h2' := Same.tup s02 h2
        have hq2 := Same.tup s02 hq
        by_cases x0 : x = 0
        · refine iteY (by rw [x0]; rfl) ?_
          exact q none _ _ (.inl ⟨x0, rfl⟩) s02 rfl
        refine iteN (by simpa using num_ne x0) ?_
        replace ht : RB 3800 x := ht
        refine ⟨_, rfl, qa, _, 1, .int m, rfl, rfl, hq2, rfl, _, rfl, qa, _, 2, .int n, rfl, rfl, hq2, rfl, (by show 3 ≤ sizeLine; decide), fun tz ntz => ?_⟩
        have s3 := Same.new (H := H1) (p := tz) (o := .tup [.int 0, .int m, .int n]) ntz
        have gtz : upd H1 tz (.tup [.int 0, .int m, .int n]) tz = some (.tup [.int 0, .int m, .int n]) := upd_same
        generalize upd H1 tz (.tup [.int 0, .int m, .int n]) = H3 at s3 gtz ⊢
        have s03 := s02.trans s3
        refine ⟨tz, rfl, ⟨_, tup_of gtz⟩, fun D hD => ?_⟩
        refine lc_tup (K := K) (a := tz) (xs := [.int 0, .int m, .int n]) (fun i H4 => Same H3 H4 ∧ RtD H4 D x [0, m, n] i) ⟨Same.new hD, RtD.new⟩ (fun i H4 _ z => tup_of (z.1 _ _ gtz)) (fun i v H4 hi z => ?_) (fun H4 z => ?_)
        · obtain ⟨s4, hd⟩ := z
          obtain ⟨k, hk, rfl⟩ : ∃ k : Int, [0, m, n][i]? = some k ∧ v = .int k := by
            rcases (show i = 0 ∨ i = 1 ∨ i = 2 ∨ 3 ≤ i by omega) with rfl | rfl | rfl | z
            · exact ⟨0, rfl, (Option.some.inj hi).symm⟩
            · exact ⟨m, rfl, (Option.some.inj hi).symm⟩
            · exact ⟨n, rfl, (Option.some.inj hi).symm⟩
            · rw [List.getElem?_eq_none (by simpa using z)] at hi
              cases hi
          have hkB : B 20 k := by
            have := List.mem_of_getElem? hk
            simp only [List.mem_cons, List.not_mem_nil, or_false] at this
            rcases this with rfl | rfl | rfl
            · exact B.lit (by decide)
            · exact hm
            · exact hn
          have hi3 : i < 3 := by
            have := (List.getElem?_eq_some_iff.mp hk).1
            simpa using this
          have s04 := s03.trans s4
          refine ⟨rfl, _, rfl, p, _, 0, .ref a, rfl, rfl, Same.tup s04 h1, rfl, _, rfl, (by show 2 ≤ sizeLine; decide), fun c nc => ?_⟩
          have s5 := Same.new (H := H4) (p := c) (o := .tup [.int k, .int 1]) nc
          have gc : upd H4 c (.tup [.int k, .int 1]) c = some (.tup [.int k, .int 1]) := upd_same
          generalize upd H4 c (.tup [.int k, .int 1]) = H5 at s5 gc ⊢
          have hkR : RB 20 ((k : Int) : Rat) := RB.int hkB (by decide)
          refine ⟨a, c, x, (k : Rat), _, _, rfl, Same.tup (s04.trans s5) h2, tup_of (by rw [fq_int]; exact gc), ht, hkR, (by decide), trivial, fun t nt => ?_⟩
          have s6 := Same.new (H := H5) (p := t) (o := .tup (fq (x + (k : Rat)))) nt
          have gt : upd H5 t (.tup (fq (x + (k : Rat)))) t = some (.tup (fq (x + (k : Rat)))) := upd_same
          generalize upd H5 t (.tup (fq (x + (k : Rat)))) = H6 at s6 gt ⊢
          refine ⟨t, x + (k : Rat), rfl, tup_of gt, (RB.add ht hkR).up (by decide), fun o vv H7 ho s7 hv => ?_⟩
          obtain ⟨acc, g1, g2, g3⟩ := hd.push (v := vv) (o := o) (s5.trans (s6.trans s7)) hk ho hv (by omega)
          exact ⟨acc, g1, g2, Same.put (s4.trans (s5.trans (s6.trans s7))) hD, g3⟩
        · obtain ⟨s4, hd⟩ := z
          obtain ⟨u, v, w, o0, o1, o2, gD, q0, q1, q2, t0, t1, t2⟩ := hd.three
          rw [show x + ((0 : Int) : Rat) = x by grind] at q0
          have hcon : ∀ o, o = comb o0 o1 o2 → Con m n (some (x, y)) o := fun o e => .inr ⟨x0, o0, o1, o2, q0, q1, q2, e⟩
          have s04 := s03.trans s4
          refine ⟨_, rfl, D, [u, v, w], rfl, rfl, lst_of gD, fun z hz => ?_, _, rfl, ?_⟩
          · simp only [List.mem_cons, List.not_mem_nil, or_false] at hz
            rcases hz with rfl | rfl | rfl
            · exact t0.nt
            · exact t1.nt
            · exact t2.nt
          have ea : [u, v, w].any isNon = (o0.isNone || (o1.isNone || o2.isNone)) := by
            simp only [List.any_cons, List.any_nil, Bool.or_false]
            rw [t0.isn, t1.isn, t2.isn]
          rw [ea]
          match o0, o1, o2, t0, t1, t2, hcon with
          | none, _, _, _, _, _, hcon =>
            refine iteY rfl ?_
            exact q none _ _ (hcon _ rfl) s04 rfl
          | some r0, none, _, _, _, _, hcon =>
            refine iteY rfl ?_
            exact q none _ _ (hcon _ rfl) s04 rfl
          | some r0, some r1, none, _, _, _, hcon =>
            refine iteY rfl ?_
            exact q none _ _ (hcon _ rfl) s04 rfl
          | some r0, some r1, some r2, t0, t1, t2, hcon =>
            refine iteN Bool.false_ne_true ?_
            obtain ⟨a0, rfl, g0⟩ := t0
            obtain ⟨a1, rfl, g1⟩ := t1
            obtain ⟨a2, rfl, g2⟩ := t2
            refine ⟨_, rfl, D, _, 0, .ref a0, rfl, rfl, lst_of gD, rfl, _, rfl, D, _, 1, .ref a1, rfl, rfl, lst_of gD, rfl, _, rfl, D, _, 2, .ref a2, rfl, rfl, lst_of gD, rfl, (by show 3 ≤ sizeLine; decide), fun t nt => ?_⟩
            have st := Same.new (H := H4) (p := t) (o := .tup [.ref a0, .ref a1, .ref a2]) nt
            exact q (some (r0, r1, r2)) _ _ (hcon _ rfl) (s04.trans st) ⟨t, rfl, a0, a1, a2, tup_of upd_same, tup_of (st _ _ g0), tup_of (st _ _ g1), tup_of (st _ _ g2)⟩
    | cub n =>
      have hn : B 8 n := B.up (show B 3 n from hb) (by decide)
      replace hq : SqT K H qa [.str "cubes", .int n] := hq
      have n36 : RB 14 ((36 * n : Int) : Rat) := RB.int (((B.lit (n := 6) (x := 36) (by decide)).mul hn).up (by decide)) (by decide)
      refine ⟨_, rfl, qa, _, 0, _, rfl, rfl, hq, rfl, rfl, _, rfl, iteN (by decide +kernel) ?_⟩
      refine ⟨_, rfl, qa, _, 0, _, rfl, rfl, hq, rfl, rfl, _, rfl, iteN (by decide +kernel) ?_⟩
      refine ⟨_, rfl, (by show 0 ≤ sizeLine; decide), fun z nz => ?_⟩
      have s1 := Same.new (H := H) (p := z) (o := .tup []) nz
      have gz : upd H z (.tup []) z = some (.tup []) := upd_same
      generalize upd H z (.tup []) = H1 at s1 gz ⊢
      match S, hp, ht, q with
      | none, hp, hB, q =>
        refine ⟨dP none, .tuple [], dp_pt (hp.same s1), dp0 (tup_of gz), sh_P none, rfl, _, rfl, iteT ?_⟩
        exact q none _ _ rfl s1 rfl
      | some (x, y), ⟨a, b, h1, h2, h3⟩, ⟨bx, byy, x0⟩, q =>
        refine ⟨dP (some (x, y)), .tuple [], dp_pt ⟨a, b, Same.tup s1 h1, Same.tup s1 h2, Same.tup s1 h3⟩, dp0 (tup_of gz), sh_P (some (x, y)), rfl, _, rfl, iteF ?_⟩
        have x6 : 6 * x ≠ 0 := by grind
        have E0 : FrE K H1 [(a, x, 100), (b, y, 100)] := FrE.add (FrE.add FrE.nil (Same.tup s1 h3) byy) (Same.tup s1 h2) bx
        have g1 := Same.tup s1 h1
        refine ⟨(by show 2 ≤ sizeLine; decide), fun six nsix => ?_⟩
        obtain ⟨H2, eH_, s2, E1⟩ := litE E0 nsix (show [V.int 6, V.int 1] = fq 6 from rfl) (show RB 3 (6 : Rat) from ⟨by decide, by decide⟩)
        rw [eH_]
        clear eH_
        refine ⟨_, rfl, p, _, 0, .ref a, rfl, rfl, Same.tup s2 g1, rfl, ?_⟩
        refine ⟨six, a, _, _, _, _, rfl, E1.get (by walk_at "mm"), E1.get (by walk_at "mm"), E1.rb (p := six) (by walk_at "mm"), E1.rb (p := a) (by walk_at "mm"), (by first | decide | omega), trivial, fun low nlow => ?_⟩
        obtain ⟨H3, eH_, s3, E2⟩ := stepE E1 nlow (RB.mul (E1.rb (p := six) (by walk_at "mm")) (E1.rb (p := a) (by walk_at "mm")))
        rw [eH_]
        clear eH_
        refine ⟨_, rfl, qa, _, 1, .int n, rfl, rfl, Same.tup (s1.trans (s2.trans s3)) hq, rfl, _, _, rfl, rfl, Or.inl ⟨by decide, by decide⟩, ?_⟩
        refine ⟨(by show 2 ≤ sizeLine; decide), fun tn ntn => ?_⟩
        obtain ⟨H4, eH_, s4, E3⟩ := litE E2 ntn (fq_int _).symm n36
        rw [eH_]
        clear eH_
        refine ⟨_, _, rfl, ?_⟩
        first | refine sigN [some (.ref qa), some (.ref p), none, none, some (.ref low), some (.ref tn)] (by rfl) ?_ | refine sig [some (.ref qa), some (.ref p), none, none, some (.ref low), some (.ref tn)] (by rfl) ?_
        refine ⟨_, rfl, _, rfl, p, _, 1, .ref b, rfl, rfl, Same.tup (s2.trans (s3.trans s4)) g1, rfl, ?_⟩
        refine ⟨tn, b, _, _, _, _, rfl, E3.get (by walk_at "mm"), E3.get (by walk_at "mm"), E3.rb (p := tn) (by walk_at "mm"), E3.rb (p := b) (by walk_at "mm"), (by first | decide | omega), trivial, fun u1 nu1 => ?_⟩
        obtain ⟨H5, eH_, s5, E4⟩ := stepE E3 nu1 (RB.add (E3.rb (p := tn) (by walk_at "mm")) (E3.rb (p := b) (by walk_at "mm")))
        rw [eH_]
        clear eH_
        refine ⟨_, rfl, ?_⟩
        refine ⟨u1, low, _, _, _, _, rfl, E4.get (by walk_at "mm"), E4.get (by walk_at "mm"), E4.rb (p := u1) (by walk_at "mm"), E4.rb (p := low) (by walk_at "mm"), (by first | decide | omega), x6, fun r1 nr1 => ?_⟩
        obtain ⟨H6, eH_, s6, E5⟩ := stepE E4 nr1 (RB.div x6 (E4.rb (p := u1) (by walk_at "mm")) (E4.rb (p := low) (by walk_at "mm")))
        rw [eH_]
        clear eH_
        refine ⟨_, rfl, _, rfl, p, _, 1, .ref b, rfl, rfl, Same.tup (s2.trans (s3.trans (s4.trans (s5.trans s6)))) g1, rfl, ?_⟩
        refine ⟨tn, b, _, _, _, _, rfl, E5.get (by walk_at "mm"), E5.get (by walk_at "mm"), E5.rb (p := tn) (by walk_at "mm"), E5.rb (p := b) (by walk_at "mm"), (by first | decide | omega), trivial, fun u2 nu2 => ?_⟩
        obtain ⟨H7, eH_, s7, E6⟩ := stepE E5 nu2 (RB.sub (E5.rb (p := tn) (by walk_at "mm")) (E5.rb (p := b) (by walk_at "mm")))
        rw [eH_]
        clear eH_
        refine ⟨_, rfl, ?_⟩
        refine ⟨u2, low, _, _, _, _, rfl, E6.get (by walk_at "mm"), E6.get (by walk_at "mm"), E6.rb (p := u2) (by walk_at "mm"), E6.rb (p := low) (by walk_at "mm"), (by first | decide | omega), x6, fun r2 nr2 => ?_⟩
        obtain ⟨H8, eH_, s8, E7⟩ := stepE E6 nr2 (RB.div x6 (E6.rb (p := u2) (by walk_at "mm")) (E6.rb (p := low) (by walk_at "mm")))
        rw [eH_]
        clear eH_
        refine ⟨(by show 2 ≤ sizeLine; decide), fun r nr => ?_⟩
        have sr := Same.new (H := H8) (p := r) (o := .tup [.ref r1, .ref r2]) nr
        have E8 := E7.same sr
        exact q _ _ _ rfl (s1.trans (s2.trans (s3.trans (s4.trans (s5.trans (s6.trans (s7.trans (s8.trans sr)))))))) ⟨r, rfl, r1, r2, tup_of upd_same, E8.get (p := r1) (by walk_at "mm"), E8.get (p := r2) (by walk_at "mm")⟩
end
end K55
set_option Elab.async false
set_option linter.all false
set_option maxRecDepth 100000
set_option maxHeartbeats 4000000
namespace K55
open PySem PySem.Spec PyProof.Rows L2 Gd QM EcM EcP
local macro_rules | `(tactic| walk_at "mm") => `(tactic| (repeat (first | exact List.mem_cons_self | apply List.mem_cons_of_mem)))
/-- it solves the question -/
def Sol : Qn → List Rat → Prop
  | .tri n, [a, b, c] => RB 1900 a ∧ RB 1900 b ∧ RB 1900 c ∧ a * a + b * b = c * c ∧ a * b = ((2 * n : Int) : Rat)
  | .con m n, [t, u, v] => RB 1900 t ∧ RB 1900 u ∧ RB 1900 v ∧ u * u = t * t + (m : Rat) ∧ v * v = t * t + (n : Rat)
  | .cub n, [x, y] => RB 100 x ∧ RB 100 y ∧ x * x * x + y * y * y = (n : Rat)
  | _, _ => False
theorem sol_tri {n : Int} {s : List Rat} (h : Sol (.tri n) s) : ∃ a b c, s = [a, b, c] ∧ RB 1900 a ∧ RB 1900 b ∧ RB 1900 c ∧ a * a + b * b = c * c ∧ a * b = ((2 * n : Int) : Rat) := by
  match s, h with
  | [a, b, c], h => exact ⟨a, b, c, rfl, h⟩
theorem sol_con {m n : Int} {s : List Rat} (h : Sol (.con m n) s) : ∃ t u v, s = [t, u, v] ∧ RB 1900 t ∧ RB 1900 u ∧ RB 1900 v ∧ u * u = t * t + (m : Rat) ∧ v * v = t * t + (n : Rat) := by
  match s, h with
  | [a, b, c], h => exact ⟨a, b, c, rfl, h⟩
theorem sol_cub {n : Int} {s : List Rat} (h : Sol (.cub n) s) : ∃ x y, s = [x, y] ∧ RB 100 x ∧ RB 100 y ∧ x * x * x + y * y * y = (n : Rat) := by
  match s, h with
  | [a, b], h => exact ⟨a, b, rfl, h⟩
theorem sol_RB {q : Qn} {s : List Rat} (h : Sol q s) : ∀ x ∈ s, RB 1900 x := by
  intro x hx
  cases q with
  | tri n =>
    obtain ⟨a, b, c, rfl, h1, h2, h3, _⟩ := sol_tri h
    simp only [List.mem_cons, List.not_mem_nil, or_false] at hx
    rcases hx with rfl | rfl | rfl <;> assumption
  | con m n =>
    obtain ⟨a, b, c, rfl, h1, h2, h3, _⟩ := sol_con h
    simp only [List.mem_cons, List.not_mem_nil, or_false] at hx
    rcases hx with rfl | rfl | rfl <;> assumption
  | cub n =>
    obtain ⟨a, b, rfl, h1, h2, _⟩ := sol_cub h
    simp only [List.mem_cons, List.not_mem_nil, or_false] at hx
    rcases hx with rfl | rfl
    · exact h1.up (by decide)
    · exact h2.up (by decide)
theorem SolT.list {K : PySem.W.Frag} {H : Hp} {p : Addr} {s : List Rat} (h : SolT K H p s) : ∃ ps : List Addr, SqT K H p (ps.map V.ref) ∧ ps.length = s.length ∧ s.length ≤ 3 ∧ ∀ (j : Nat) (a : Addr), ps[j]? = some a → ∃ q, s[j]? = some q ∧ SqT K H a (fq q) := by
  match s, h with
  | [a, b], ⟨pa, pb, h0, h1, h2⟩ =>
    refine ⟨[pa, pb], h0, rfl, (by show 2 ≤ 3; decide), fun j x hx => ?_⟩
    rcases (show j = 0 ∨ j = 1 ∨ 2 ≤ j by omega) with rfl | rfl | z
    · obtain rfl := Option.some.inj hx
      exact ⟨a, rfl, h1⟩
    · obtain rfl := Option.some.inj hx
      exact ⟨b, rfl, h2⟩
    · rw [List.getElem?_eq_none (by simpa using z)] at hx
      cases hx
  | [a, b, c], ⟨pa, pb, pc, h0, h1, h2, h3⟩ =>
    refine ⟨[pa, pb, pc], h0, rfl, (by show 3 ≤ 3; decide), fun j x hx => ?_⟩
    rcases (show j = 0 ∨ j = 1 ∨ j = 2 ∨ 3 ≤ j by omega) with rfl | rfl | rfl | z
    · obtain rfl := Option.some.inj hx
      exact ⟨a, rfl, h1⟩
    · obtain rfl := Option.some.inj hx
      exact ⟨b, rfl, h2⟩
    · obtain rfl := Option.some.inj hx
      exact ⟨c, rfl, h3⟩
    · rw [List.getElem?_eq_none (by simpa using z)] at hx
      cases hx
theorem FqD.two {H : Hp} {D : Addr} {a b : Rat} (h : FqD H D [a, b] 2) : ∃ p1 p2, H D = some (.lst [.ref p1, .ref p2]) ∧ H p1 = some (.tup (fq a)) ∧ H p2 = some (.tup (fq b)) := by
  obtain ⟨L, h1, h2, h3⟩ := h
  match L, h2 with
  | [p1, p2], _ =>
    have g : ∀ (j : Nat) (p : Addr) (n : Rat), [p1, p2][j]? = some p → [a, b][j]? = some n → H p = some (.tup (fq n)) := fun j p n x y => by
      obtain ⟨m, hm, hp⟩ := h3 j p x
      rw [y] at hm
      obtain rfl := Option.some.inj hm
      exact hp
    exact ⟨p1, p2, h1, g 0 _ _ rfl rfl, g 1 _ _ rfl rfl⟩
section
variable {P : Program} {w : World} {K : PySem.W.Frag} {mg : Str → Option Value} {base : Heap}
def sp_law_solves (K : PySem.W.Frag) : Sp := fun vs H Q _ => ∃ (qa sp : Addr) (qn : Qn) (s : List Rat), vs = [.ref qa, .ref sp] ∧ SqT K H qa qn.vs ∧ qn.Bd ∧ SolT K H sp s ∧ Sol qn s ∧ ∀ H', Same H H' → Q (.bl true) H'
abbrev s__law_solves : Stmt := topS 62
theorem sc__law_solves : FnScope ["question", "solution", "parts", "f"] ["question", "solution"] (defScope s__law_solves) := ⟨rfl, rfl, rfl, by decide +kernel, rfl, by decide +kernel, by decide +kernel⟩
theorem k_law_solves (T : Tx K mg) (D : Df K mg "_law_solves" s__law_solves ["question", "solution"]) (c_law_by : Kl P w K mg base 3 "_law_by" (sp_law_by K)) (c_law_plus : Kl P w K mg base 3 "_law_plus" (sp_law_plus K)) : Kl P w K mg base 4 "_law_solves" (sp_law_solves K) := by
  have nd := sc__law_solves.nd
  refine Kl.by_body D sc__law_solves (fun vs H Q E h => ?_) (fun f cdv A outer s H vs Q E hr h => ?_)
  · obtain ⟨_, _, _, _, rfl, _⟩ := h
    rfl
  · obtain ⟨qa, sp, qn, s, rfl, hq, hb, hs, hS, q⟩ := h
    have hu1 := hu_of hr
    refine ⟨_, (pss_cons (ps_setLc (i := 2) (own := [("f", 3)]) (g := gName 3) rfl nd rfl rfl (sw_true rfl rfl rfl (by decide +kernel)) (pi_tup (pv 1)) (blkOk_by (N := ["question", "solution", "parts", "f"]) (sc := defScope s__law_solves) (by decide +kernel)) (fun _ _ _ _ _ => (pg_name (i := 3) nd rfl (by first | exact Or.inl rfl | exact Or.inr rfl))) (fun _ _ _ _ _ => pts_nil) (fun _ _ _ _ _ => (pe_k c_law_by  hr (by decide) (by rfl) (pa_cons (pv 3) (pa_cons (pv 3) pa_nil)))))
      (pss_cons (ps_if (pt_cmpR op_eq (pe_ix ix_tup (pv 0) pe_int (fun _ _ => rfl)) pe_str (nomark _)) (pss_one (ps_ret (pe_and (pe_cmpR (op_eqD hr.units) (pe_k c_law_plus  hr (by decide) (by rfl) (pa_cons (pe_ix ix_list (pv 2) pe_int (fun _ _ => rfl)) (pa_cons (pe_ix ix_list (pv 2) pe_int (fun _ _ => rfl)) pa_nil))) (pe_ix ix_list (pv 2) pe_int (fun _ _ => rfl)) (nomark _)) (pe_one (pe_cmpR (op_eqD hr.units) (pe_k c_law_by  hr (by decide) (by rfl) (pa_cons (pe_ix ix_tup (pv 1) pe_int (fun _ _ => rfl)) (pa_cons (pe_ix ix_tup (pv 1) pe_int (fun _ _ => rfl)) pa_nil))) (pe_tup (pa_cons (pe_op op_mul pe_int (pe_ix ix_tup (pv 0) pe_int (fun _ _ => rfl))) (pa_cons pe_int pa_nil))) (nomark _)))))) pss_nil)
      (pss_cons (ps_if (pt_cmpR op_eq (pe_ix ix_tup (pv 0) pe_int (fun _ _ => rfl)) pe_str (nomark _)) (pss_one (ps_ret (pe_and (pe_cmpR (op_eqD hr.units) (pe_ix ix_list (pv 2) pe_int (fun _ _ => rfl)) (pe_k c_law_plus  hr (by decide) (by rfl) (pa_cons (pe_ix ix_list (pv 2) pe_int (fun _ _ => rfl)) (pa_cons (pe_tup (pa_cons (pe_ix ix_tup (pv 0) pe_int (fun _ _ => rfl)) (pa_cons pe_int pa_nil))) pa_nil))) (nomark _)) (pe_one (pe_cmpR (op_eqD hr.units) (pe_ix ix_list (pv 2) pe_int (fun _ _ => rfl)) (pe_k c_law_plus  hr (by decide) (by rfl) (pa_cons (pe_ix ix_list (pv 2) pe_int (fun _ _ => rfl)) (pa_cons (pe_tup (pa_cons (pe_ix ix_tup (pv 0) pe_int (fun _ _ => rfl)) (pa_cons pe_int pa_nil))) pa_nil))) (nomark _)))))) pss_nil)
      (pss_one (ps_ret (pe_cmpR (op_eqD hr.units) (pe_k c_law_plus  hr (by decide) (by rfl) (pa_cons (pe_k c_law_by  hr (by decide) (by rfl) (pa_cons (pe_ix ix_list (pv 2) pe_int (fun _ _ => rfl)) (pa_cons (pe_ix ix_tup (pv 1) pe_int (fun _ _ => rfl)) pa_nil))) (pa_cons (pe_k c_law_by  hr (by decide) (by rfl) (pa_cons (pe_ix ix_list (pv 2) pe_int (fun _ _ => rfl)) (pa_cons (pe_ix ix_tup (pv 1) pe_int (fun _ _ => rfl)) pa_nil))) pa_nil))) (pe_tup (pa_cons (pe_ix ix_tup (pv 0) pe_int (fun _ _ => rfl)) (pa_cons pe_int pa_nil))) (nomark _))))))), ?_⟩
    obtain ⟨ps, h0, hl, h3, hps⟩ := hs.list
    have hRB := sol_RB hS
    refine ⟨_, rfl, sp, rfl, ⟨_, h0⟩, fun D hD => ?_⟩
    refine lc_tup (K := K) (a := sp) (xs := ps.map V.ref) (fun i H4 => Same H H4 ∧ FqD H4 D (s.map fun x => x * x) i) ⟨Same.new hD, FqD.new⟩ (fun i H4 _ z => Same.tup z.1 h0) (fun i v H4 hi z => ?_) (fun H4 z => ?_)
    · obtain ⟨s4, hd⟩ := z
      rw [List.getElem?_map] at hi
      obtain ⟨a, ha, rfl⟩ := Option.map_eq_some_iff.mp hi
      obtain ⟨x, hx, hxa⟩ := hps i a ha
      have bx := hRB x (List.mem_of_getElem? hx)
      have hi3 : i < s.length := (List.getElem?_eq_some_iff.mp hx).1
      have ga := Same.tup s4 hxa
      refine ⟨rfl, _, rfl, _, rfl, a, a, x, x, 1900, 1900, rfl, ga, ga, bx, bx, (by decide), trivial, fun t nt => ?_⟩
      have s6 := Same.new (H := H4) (p := t) (o := .tup (fq (x * x))) nt
      have gt : upd H4 t (.tup (fq (x * x))) t = some (.tup (fq (x * x))) := upd_same
      generalize upd H4 t (.tup (fq (x * x))) = H6 at s6 gt ⊢
      obtain ⟨acc, g1, g2, g3⟩ := hd.push s6 (by rw [List.getElem?_map, hx]; rfl) gt (by omega)
      exact ⟨acc, g1, g2, Same.put (s4.trans s6) hD, g3⟩
    obtain ⟨s4, hd⟩ := z
    rw [List.length_map, hl] at hd
    first | refine sigN [some (.ref qa), some (.ref sp), some (.ref D), none] (by rfl) ?_ | refine sig [some (.ref qa), some (.ref sp), some (.ref D), none] (by rfl) ?_
    have hq4 := Same.tup s4 hq
    have h04 := Same.tup s4 h0
    cases qn with
    | tri n =>
      obtain ⟨a, b, c, rfl, ba, bb, bc, e1, e2⟩ := sol_tri hS
      have hn : B 8 n := B.up (show B 7 n from hb) (by decide)
      have n2B : RB 10 ((2 * n : Int) : Rat) := RB.int (((B.lit (n := 2) (x := 2) (by decide)).mul hn).up (by decide)) (by decide)
      replace hq4 : SqT K H4 qa [.str "triangle", .int n] := hq4
      obtain ⟨p1, p2, p3, gD, g1, g2, g3⟩ := FqD.three hd
      obtain ⟨pa, pb, pc, k0, k1, k2, k3⟩ := hs.same s4
      replace k1 : SqT K H4 pa (fq a) := k1
      replace k2 : SqT K H4 pb (fq b) := k2
      refine ⟨_, rfl, qa, _, 0, _, rfl, rfl, hq4, rfl, rfl, _, rfl, iteY (by simp) ?_⟩
      refine ⟨_, rfl, D, _, 0, .ref p1, rfl, rfl, lst_of gD, rfl, _, rfl, D, _, 1, .ref p2, rfl, rfl, lst_of gD, rfl, ?_⟩
      have E0 : FrE K H4 [(p1, a * a, 3800), (p2, b * b, 3800), (pa, a, 1900), (pb, b, 1900)] := FrE.add (FrE.add (FrE.add (FrE.add FrE.nil k2 bb) k1 ba) (tup_of g2) (bb.mul bb)) (tup_of g1) (ba.mul ba)
      refine ⟨p1, p2, _, _, _, _, rfl, E0.get (by walk_at "mm"), E0.get (by walk_at "mm"), E0.rb (p := p1) (by walk_at "mm"), E0.rb (p := p2) (by walk_at "mm"), (by first | decide | omega), trivial, fun sm nsm => ?_⟩
      obtain ⟨H5, eH_, s5, E1⟩ := stepE E0 nsm (RB.add (E0.rb (p := p1) (by walk_at "mm")) (E0.rb (p := p2) (by walk_at "mm")))
      rw [eH_]
      clear eH_
      have gs := E1.get (p := sm) (by walk_at "mm")
      refine ⟨_, rfl, D, _, 2, .ref p3, rfl, rfl, lst_of (s5 _ _ gD), rfl, dq (a * a + b * b), dq (c * c), dp_q gs, dp_q (tup_of (s5 _ _ g3)), rfl, rfl, _, rfl, ?_⟩
      rw [eqv_q]
      refine iteY (decide_eq_true e1) ?_
      refine ⟨_, rfl, sp, _, 0, .ref pa, rfl, rfl, Same.tup s5 k0, rfl, _, rfl, sp, _, 1, .ref pb, rfl, rfl, Same.tup s5 k0, rfl, ?_⟩
      refine ⟨pa, pb, _, _, _, _, rfl, E1.get (by walk_at "mm"), E1.get (by walk_at "mm"), E1.rb (p := pa) (by walk_at "mm"), E1.rb (p := pb) (by walk_at "mm"), (by first | decide | omega), trivial, fun pr npr => ?_⟩
      obtain ⟨H6, eH_, s6, E2⟩ := stepE E1 npr (RB.mul (E1.rb (p := pa) (by walk_at "mm")) (E1.rb (p := pb) (by walk_at "mm")))
      rw [eH_]
      clear eH_
      have gp := E2.get (p := pr) (by walk_at "mm")
      refine ⟨_, rfl, qa, _, 1, .int n, rfl, rfl, Same.tup (s5.trans s6) hq4, rfl, _, _, rfl, rfl, Or.inl ⟨by decide, by decide⟩, ?_⟩
      refine ⟨(by show 2 ≤ sizeLine; decide), fun tn ntn => ?_⟩
      obtain ⟨H7, eH_, s7, E3⟩ := litE E2 ntn (fq_int _).symm n2B
      rw [eH_]
      clear eH_
      have gt := E3.get (p := tn) (by walk_at "mm")
      refine ⟨dq (a * b), dq ((2 * n : Int) : Rat), dp_q (Same.tup s7 gp), dp_q gt, rfl, rfl, ?_⟩
      rw [eqv_q, decide_eq_true e2]
      exact q _ (s4.trans (s5.trans (s6.trans s7)))
    | con m n =>
      obtain ⟨a, b, c, rfl, ba, bb, bc, e1, e2⟩ := sol_con hS
      have mB : RB 8 ((m : Int) : Rat) := RB.int hb.1 (by decide)
      have nB : RB 8 ((n : Int) : Rat) := RB.int hb.2 (by decide)
      replace hq4 : SqT K H4 qa [.str "concord", .int m, .int n] := hq4
      obtain ⟨p1, p2, p3, gD, g1, g2, g3⟩ := FqD.three hd
      refine ⟨_, rfl, qa, _, 0, _, rfl, rfl, hq4, rfl, rfl, _, rfl, iteN (by decide +kernel) ?_⟩
      refine ⟨_, rfl, qa, _, 0, _, rfl, rfl, hq4, rfl, rfl, _, rfl, iteY (by simp) ?_⟩
      have E0 : FrE K H4 [(p1, a * a, 3800)] := FrE.add FrE.nil (tup_of g1) (ba.mul ba)
      refine ⟨_, rfl, D, _, 1, .ref p2, rfl, rfl, lst_of gD, rfl, _, rfl, D, _, 0, .ref p1, rfl, rfl, lst_of gD, rfl, _, rfl, qa, _, 1, .int m, rfl, rfl, hq4, rfl, ?_⟩
      refine ⟨(by show 2 ≤ sizeLine; decide), fun tm ntm => ?_⟩
      obtain ⟨H5, eH_, s5, E1⟩ := litE E0 ntm (fq_int _).symm mB
      rw [eH_]
      clear eH_
      refine ⟨p1, tm, _, _, _, _, rfl, E1.get (by walk_at "mm"), E1.get (by walk_at "mm"), E1.rb (p := p1) (by walk_at "mm"), E1.rb (p := tm) (by walk_at "mm"), (by first | decide | omega), trivial, fun sm nsm => ?_⟩
      obtain ⟨H6, eH_, s6, E2⟩ := stepE E1 nsm (RB.add (E1.rb (p := p1) (by walk_at "mm")) (E1.rb (p := tm) (by walk_at "mm")))
      rw [eH_]
      clear eH_
      have gs := E2.get (p := sm) (by walk_at "mm")
      have s46 := s5.trans s6
      refine ⟨dq (b * b), dq (a * a + (m : Rat)), dp_q (tup_of (s46 _ _ g2)), dp_q gs, rfl, rfl, _, rfl, ?_⟩
      rw [eqv_q]
      refine iteY (decide_eq_true e1) ?_
      refine ⟨_, rfl, D, _, 2, .ref p3, rfl, rfl, lst_of (s46 _ _ gD), rfl, _, rfl, D, _, 0, .ref p1, rfl, rfl, lst_of (s46 _ _ gD), rfl, _, rfl, qa, _, 2, .int n, rfl, rfl, Same.tup s46 hq4, rfl, ?_⟩
      refine ⟨(by show 2 ≤ sizeLine; decide), fun tn ntn => ?_⟩
      obtain ⟨H7, eH_, s7, E3⟩ := litE E2 ntn (fq_int _).symm nB
      rw [eH_]
      clear eH_
      refine ⟨p1, tn, _, _, _, _, rfl, E3.get (by walk_at "mm"), E3.get (by walk_at "mm"), E3.rb (p := p1) (by walk_at "mm"), E3.rb (p := tn) (by walk_at "mm"), (by first | decide | omega), trivial, fun sn nsn => ?_⟩
      obtain ⟨H8, eH_, s8, E4⟩ := stepE E3 nsn (RB.add (E3.rb (p := p1) (by walk_at "mm")) (E3.rb (p := tn) (by walk_at "mm")))
      rw [eH_]
      clear eH_
      have gt := E4.get (p := sn) (by walk_at "mm")
      have s48 := s46.trans (s7.trans s8)
      refine ⟨dq (c * c), dq (a * a + (n : Rat)), dp_q (tup_of (s48 _ _ g3)), dp_q gt, rfl, rfl, ?_⟩
      rw [eqv_q, decide_eq_true e2]
      exact q _ (s4.trans s48)
    | cub n =>
      obtain ⟨a, b, rfl, ba, bb, e1⟩ := sol_cub hS
      have nB : RB 8 ((n : Int) : Rat) := RB.int (B.up (show B 3 n from hb) (by decide)) (by decide)
      replace hq4 : SqT K H4 qa [.str "cubes", .int n] := hq4
      obtain ⟨p1, p2, gD, g1, g2⟩ := FqD.two hd
      obtain ⟨pa, pb, k0, k1, k2⟩ := hs.same s4
      refine ⟨_, rfl, qa, _, 0, _, rfl, rfl, hq4, rfl, rfl, _, rfl, iteN (by decide +kernel) ?_⟩
      refine ⟨_, rfl, qa, _, 0, _, rfl, rfl, hq4, rfl, rfl, _, rfl, iteN (by decide +kernel) ?_⟩
      have E0 : FrE K H4 [(p1, a * a, 200), (p2, b * b, 200), (pa, a, 100), (pb, b, 100)] := FrE.add (FrE.add (FrE.add (FrE.add FrE.nil k2 bb) k1 ba) (tup_of g2) (bb.mul bb)) (tup_of g1) (ba.mul ba)
      refine ⟨_, rfl, D, _, 0, .ref p1, rfl, rfl, lst_of gD, rfl, _, rfl, sp, _, 0, .ref pa, rfl, rfl, k0, rfl, ?_⟩
      refine ⟨p1, pa, _, _, _, _, rfl, E0.get (by walk_at "mm"), E0.get (by walk_at "mm"), E0.rb (p := p1) (by walk_at "mm"), E0.rb (p := pa) (by walk_at "mm"), (by first | decide | omega), trivial, fun c1 nc1 => ?_⟩
      obtain ⟨H5, eH_, s5, E1⟩ := stepE E0 nc1 (RB.mul (E0.rb (p := p1) (by walk_at "mm")) (E0.rb (p := pa) (by walk_at "mm")))
      rw [eH_]
      clear eH_
      refine ⟨_, rfl, D, _, 1, .ref p2, rfl, rfl, lst_of (s5 _ _ gD), rfl, _, rfl, sp, _, 1, .ref pb, rfl, rfl, Same.tup s5 k0, rfl, ?_⟩
      refine ⟨p2, pb, _, _, _, _, rfl, E1.get (by walk_at "mm"), E1.get (by walk_at "mm"), E1.rb (p := p2) (by walk_at "mm"), E1.rb (p := pb) (by walk_at "mm"), (by first | decide | omega), trivial, fun c2 nc2 => ?_⟩
      obtain ⟨H6, eH_, s6, E2⟩ := stepE E1 nc2 (RB.mul (E1.rb (p := p2) (by walk_at "mm")) (E1.rb (p := pb) (by walk_at "mm")))
      rw [eH_]
      clear eH_
      refine ⟨c1, c2, _, _, _, _, rfl, E2.get (by walk_at "mm"), E2.get (by walk_at "mm"), E2.rb (p := c1) (by walk_at "mm"), E2.rb (p := c2) (by walk_at "mm"), (by first | decide | omega), trivial, fun sm nsm => ?_⟩
      obtain ⟨H7, eH_, s7, E3⟩ := stepE E2 nsm (RB.add (E2.rb (p := c1) (by walk_at "mm")) (E2.rb (p := c2) (by walk_at "mm")))
      rw [eH_]
      clear eH_
      have s47 := s5.trans (s6.trans s7)
      refine ⟨_, rfl, qa, _, 1, .int n, rfl, rfl, Same.tup s47 hq4, rfl, ?_⟩
      refine ⟨(by show 2 ≤ sizeLine; decide), fun tn ntn => ?_⟩
      obtain ⟨H8, eH_, s8, E4⟩ := litE E3 ntn (fq_int _).symm nB
      rw [eH_]
      clear eH_
      have gt := E4.get (p := tn) (by walk_at "mm")
      have gs := E4.get (p := sm) (by walk_at "mm")
      refine ⟨dq (a * a * a + b * b * b), dq (n : Rat), dp_q gs, dp_q gt, rfl, rfl, ?_⟩
      rw [eqv_q, decide_eq_true e1]
      exact q _ (s4.trans (s47.trans s8))
end
end K55
set_option Elab.async false
set_option linter.all false
set_option maxRecDepth 100000
set_option maxHeartbeats 4000000
namespace K55
open PySem PySem.Spec PyProof.Rows L2 Gd QM EcM EcP
/-! ### triangles again -/
theorem tz_x {n : Int} {c : C3} {T W : Int} (t : Tri n c) (h : (c.1 + c.2.2) * (W : Rat) = c.2.1 * (T : Rat)) : (tpt n c).1 * (W : Rat) = (n : Rat) * (T : Rat) := by
  have ex := tpt_x t
  have hb := t.b0
  generalize (tpt n c).1 = x at *
  apply cancel hb
  have l : x * (W : Rat) * c.2.1 = x * c.2.1 * W := by grind
  rw [l, ex]
  have l2 : (n : Rat) * (c.1 + c.2.2) * W = n * ((c.1 + c.2.2) * W) := by grind
  rw [l2, h]
  grind
theorem tz_HB {n : Int} {c : C3} {k : Nat} (t : Tri n c) (hn : B 7 n) (h : TZ k c) : HB (k + 7) (some (tpt n c)) := by
  obtain ⟨T, W, w0, e, zT, zW⟩ := h
  have ex := tz_x t e
  show RB (k + 7) (tpt n c).1
  have zn : Z 7 n := hn
  exact rb_of (d := W) (n := n * T) (by rw [ex, Rat.intCast_mul]) w0 ((zn.mul zT).up (by omega)) (zW.up (by omega))
/-- the ratio of the doubled point -/
theorem dbl_ratio {n : Int} {x y : Rat} {T W : Int} (n0 : 0 < n) (o : On (en n) (some (x, y))) (w0 : W ≠ 0) (h : x * (W : Rat) = (n : Rat) * (T : Rat)) (y0 : y ≠ 0) :
    px (en n) (slo (en n) x y x y) x x * ((4 * W * T * (T * T - W * W) : Int) : Rat) = (n : Rat) * (((T * T + W * W) * (T * T + W * W) : Int) : Rat) ∧ 4 * W * T * (T * T - W * W) ≠ 0 := by
  replace o : y * y = (en n).f x := o
  have n1 := n_ne n0
  have w1 : (W : Rat) ≠ 0 := fun z => w0 (by exact_mod_cast z)
  have hk : slo (en n) x y x y * (2 * y) = 3 * (x * x) - (n : Rat) * n := by
    rw [sl_dbl]
    have y2 : 2 * y ≠ 0 := qmul_ne (by decide) y0
    rw [Rat.div_mul_cancel y2]
    show 3 * (x * x) + (((2 * (0 : Int) : Int) : Rat) * x + ((-n * n : Int) : Rat)) = _
    push_cast
    grind
  rw [en_f] at o
  have epx : px (en n) (slo (en n) x y x y) x x = slo (en n) x y x y * slo (en n) x y x y - 2 * x := by
    show _ * _ - ((0 : Int) : Rat) - x - x = _
    have : ((0 : Int) : Rat) = 0 := rfl
    rw [this]
    grind
  rw [epx]
  generalize slo (en n) x y x y = k at *
  push_cast
  generalize (n : Rat) = N at *
  have hw : (T : Rat) * (T : Rat) - (W : Rat) * W ≠ 0 ∧ (T : Rat) ≠ 0 := by
    refine ⟨fun z => ?_, fun z => ?_⟩
    · have e1 : (x * W) * (x * W) = N * N * (W * W) := by
        rw [h]
        have : (T : Rat) * T = W * W := by grind
        have l : N * (T : Rat) * (N * T) = N * N * (T * T) := by grind
        rw [l, this]
      have e2 : y * y * (W * W) = 0 := by
        rw [o]
        have l : (x * x * x - N * N * x) * ((W : Rat) * W) = x * ((x * W) * (x * W) - N * N * (W * W)) := by grind
        rw [l, e1]
        grind
      exact qmul_ne (qmul_ne y0 y0) (qmul_ne w1 w1) e2
    · rw [z, Rat.mul_zero] at h
      rcases Rat.mul_eq_zero.mp h with z2 | z2
      · rw [z2] at o
        exact qmul_ne y0 y0 (by rw [o]; grind)
      · exact w1 z2
  refine ⟨?_, ?_⟩
  · have e3 : 4 * (y * y) * (k * k - 2 * x) = (x * x + N * N) * (x * x + N * N) := by
      have l : 4 * (y * y) * (k * k - 2 * x) = (k * (2 * y)) * (k * (2 * y)) - 8 * x * (y * y) := by grind
      rw [l, hk, o]
      grind
    apply cancel (qmul_ne n1 (qmul_ne n1 n1))
    generalize (T : Rat) = t at *
    generalize (W : Rat) = w at *
    have l : (k * k - 2 * x) * (4 * w * t * (t * t - w * w)) * (N * (N * N)) = (k * k - 2 * x) * (4 * w * (N * t) * ((N * t) * (N * t) - N * N * (w * w))) := by grind
    rw [l, ← h]
    have l2 : (k * k - 2 * x) * (4 * w * (x * w) * (x * w * (x * w) - N * N * (w * w))) = 4 * (x * x * x - N * N * x) * (k * k - 2 * x) * (w * w * (w * w)) := by grind
    rw [l2, ← o, e3]
    have l3 : (x * x + N * N) * (x * x + N * N) * (w * w * (w * w)) = ((x * w) * (x * w) + N * N * (w * w)) * ((x * w) * (x * w) + N * N * (w * w)) := by grind
    rw [l3, h]
    grind
  · intro z
    have z2 : ((4 * W * T * (T * T - W * W) : Int) : Rat) = 0 := by rw [z]; rfl
    push_cast at z2
    exact qmul_ne (qmul_ne (qmul_ne (by decide) w1) hw.2) hw.1 z2
theorem qa_sign (q : Rat) : ∃ s : Int, (s = 1 ∨ s = -1) ∧ qa q = (s : Rat) * q := by
  rcases qa_cases q with h | h
  · exact ⟨1, .inl rfl, by rw [h, show ((1 : Int) : Rat) = 1 from rfl, Rat.one_mul]⟩
  · exact ⟨-1, .inr rfl, by rw [h, show ((-1 : Int) : Rat) = -1 from rfl]; grind⟩
theorem z_sign {k : Nat} {s r T : Int} (hs : s = 1 ∨ s = -1) (hr : r = 1 ∨ r = -1) (h : Z k T) : Z k (s * r * T) := by
  unfold Z at *
  rcases hs with rfl | rfl <;> rcases hr with rfl | rfl <;> omega
/-- the ratio of what is told -/
theorem told_TZ {n : Int} {x y : Rat} {c : C3} {k : Nat} {T W : Int} (n0 : 0 < n) (o : On (en n) (some (x, y))) (w0 : W ≠ 0) (h : x * (W : Rat) = (n : Rat) * (T : Rat)) (zT : Z k T) (zW : Z k W) (ht : told n (some (x, y)) = some c) : TZ (k + 1) c := by
  by_cases y0 : y = 0
  · have : told n (some (x, y)) = none := if_pos y0
    rw [this] at ht
    cases ht
  obtain ⟨tr, _⟩ := told_tri n0 o y0
  have w1 : (W : Rat) ≠ 0 := fun z => w0 (by exact_mod_cast z)
  have e : told n (some (x, y)) = _ := if_neg y0
  rw [e] at ht
  clear e
  have enn : ((n * n : Int) : Rat) = (n : Rat) * n := by
    push_cast
    rfl
  have e2 := two_n n
  rw [enn, e2] at ht tr
  obtain ⟨A, hA⟩ : ∃ a, (x * x - (n : Rat) * n) / y = a := ⟨_, rfl⟩
  obtain ⟨Bq, hB⟩ : ∃ a, 2 * (n : Rat) * x / y = a := ⟨_, rfl⟩
  obtain ⟨C, hC⟩ : ∃ a, (x * x + (n : Rat) * n) / y = a := ⟨_, rfl⟩
  rw [hA, hB, hC] at ht tr
  have fa := div_is y0 hA.symm
  have fb := div_is y0 hB.symm
  have fc := div_is y0 hC.symm
  obtain ⟨sa, hsa, ea⟩ := qa_sign A
  obtain ⟨sb, hsb, eb⟩ := qa_sign Bq
  obtain ⟨sc, hsc, ec⟩ := qa_sign C
  have a0 : qa A ≠ 0 := tr.a0
  have b0 : qa Bq ≠ 0 := tr.b0
  have A0 : A ≠ 0 := fun z => a0 (by rw [ea, z, Rat.mul_zero])
  have B0 : Bq ≠ 0 := fun z => b0 (by rw [eb, z, Rat.mul_zero])
  have oa := one_sq hsa
  have ob := one_sq hsb
  have n1 := n_ne n0
  have x0 : x ≠ 0 := fun z => by
    rw [z, Rat.mul_zero] at fb
    rcases Rat.mul_eq_zero.mp fb with z2 | z2
    · exact B0 z2
    · exact y0 z2
  have T0 : T ≠ 0 := fun z => by
    rw [z] at h
    rcases Rat.mul_eq_zero.mp (h.trans (by rw [show ((0 : Int) : Rat) = 0 from rfl, Rat.mul_zero])) with z2 | z2
    · exact x0 z2
    · exact w1 z2
  have xn : x * x - (n : Rat) * n ≠ 0 := fun z => by
    rw [z] at fa
    rcases Rat.mul_eq_zero.mp fa with z2 | z2
    · exact A0 z2
    · exact y0 z2
  have T1 : T - W ≠ 0 := fun z => by
    have : T = W := by omega
    rw [this] at h
    have hx : x = (n : Rat) := cancel w1 h
    exact xn (by rw [hx]; grind)
  have T2 : T + W ≠ 0 := fun z => by
    have : T = -W := by omega
    rw [this, Rat.intCast_neg] at h
    have hx : x = -(n : Rat) := cancel w1 (by rw [h]; grind)
    exact xn (by rw [hx]; grind)
  have key : (T - W : Rat) * (x + n) = (x - n) * (T + W : Rat) := by grind
  split at ht
  · obtain rfl := Option.some.inj ht
    by_cases hh : sa = sc
    · refine ⟨sa * sb * T, W, w0, ?_, (z_sign hsa hsb zT).up (by omega), zW.up (by omega)⟩
      show (qa A + qa C) * (W : Rat) = qa Bq * ((sa * sb * T : Int) : Rat)
      rw [ea, eb, ec, ← hh]
      push_cast
      generalize (sa : Rat) = p at *
      generalize (sb : Rat) = q at *
      apply cancel y0
      have l : (p * A + p * C) * (W : Rat) * y = p * (A * y + C * y) * W := by grind
      have r : q * Bq * (p * q * (T : Rat)) * y = q * q * p * (Bq * y) * T := by grind
      rw [l, r, fa, fb, fc, ob]
      grind
    · have hc : (sc : Rat) = -(sa : Rat) := by
        have : sc = -sa := by omega
        rw [this]
        exact Rat.intCast_neg _
      refine ⟨sc * sb * W, T, T0, ?_, (z_sign hsc hsb zW).up (by omega), zT.up (by omega)⟩
      show (qa A + qa C) * (T : Rat) = qa Bq * ((sc * sb * W : Int) : Rat)
      rw [ea, eb, ec]
      push_cast
      rw [hc]
      generalize (sa : Rat) = p at *
      generalize (sb : Rat) = q at *
      apply cancel y0
      have l : (p * A + -p * C) * (T : Rat) * y = p * (A * y - C * y) * T := by grind
      have r : q * Bq * (-p * q * (W : Rat)) * y = -(q * q * p * (Bq * y) * W) := by grind
      rw [l, r, fa, fb, fc, ob]
      grind
  · obtain rfl := Option.some.inj ht
    by_cases hh : sb = sc
    · refine ⟨sb * sa * (T + W), T - W, T1, ?_, z_sign hsb hsa (zT.add zW (by omega)), zT.sub zW (by omega)⟩
      show (qa Bq + qa C) * ((T - W : Int) : Rat) = qa A * ((sb * sa * (T + W) : Int) : Rat)
      rw [ea, eb, ec, ← hh]
      push_cast
      generalize (sa : Rat) = p at *
      generalize (sb : Rat) = q at *
      apply cancel y0
      have l : (q * Bq + q * C) * ((T : Rat) - W) * y = q * (Bq * y + C * y) * (T - W) := by grind
      have r : p * A * (q * p * ((T : Rat) + W)) * y = p * p * q * (A * y) * (T + W) := by grind
      rw [l, r, fa, fb, fc, oa]
      have l2 : q * (2 * (n : Rat) * x + (x * x + n * n)) * ((T : Rat) - W) = q * (x + n) * ((T - W) * (x + n)) := by grind
      rw [l2, key]
      grind
    · have hc : (sc : Rat) = -(sb : Rat) := by
        have : sc = -sb := by omega
        rw [this]
        exact Rat.intCast_neg _
      refine ⟨sc * sa * (T - W), T + W, T2, ?_, z_sign hsc hsa (zT.sub zW (by omega)), zT.add zW (by omega)⟩
      show (qa Bq + qa C) * ((T + W : Int) : Rat) = qa A * ((sc * sa * (T - W) : Int) : Rat)
      rw [ea, eb, ec]
      push_cast
      rw [hc]
      generalize (sa : Rat) = p at *
      generalize (sb : Rat) = q at *
      apply cancel y0
      have l : (q * Bq + -q * C) * ((T : Rat) + W) * y = q * (Bq * y - C * y) * (T + W) := by grind
      have r : p * A * (-q * p * ((T : Rat) - W)) * y = -(p * p * q * (A * y) * (T - W)) := by grind
      rw [l, r, fa, fb, fc, oa]
      have l2 : q * (2 * (n : Rat) * x - (x * x + n * n)) * ((T : Rat) + W) = -(q * (x - n) * ((x - n) * (T + W))) := by grind
      rw [l2, ← key]
      grind
end K55
set_option Elab.async false
set_option linter.all false
set_option maxRecDepth 100000
set_option maxHeartbeats 4000000
namespace K55
open PySem PySem.Spec PyProof.Rows L2 Gd QM EcM EcP
/-! ### concords again -/
theorem line_two {a b c x y u v k z : Rat} (h : y * y = x * x * x + a * x * x + b * x + c) (h2 : v * v = u * u * u + a * u * u + b * u + c) (hx : x ≠ u) (hk : k * (u - x) = v - y) :
    (z - x) * (z - u) * (z - (k * k - a - x - u)) = (z * z * z + a * z * z + b * z + c) - (y + k * (z - x)) * (y + k * (z - x)) := by
  have h0 : (u - x : Rat) ≠ 0 := by grind
  have hv : v = y + k * (u - x) := by grind
  apply cancel h0
  have e : (v * v - (u * u * u + a * u * u + b * u + c)) * (z - x) - (y * y - (x * x * x + a * x * x + b * x + c)) * (z - u) = 0 := by
    rw [h, h2]
    grind
  rw [hv] at e
  grind
theorem line_dbl {a b c x y k z : Rat} (h : y * y = x * x * x + a * x * x + b * x + c) (hk : k * (2 * y) = 3 * (x * x) + 2 * a * x + b) :
    (z - x) * (z - x) * (z - (k * k - a - x - x)) = (z * z * z + a * z * z + b * z + c) - (y + k * (z - x)) * (y + k * (z - x)) := by
  have e : (k * (2 * y) - (3 * (x * x) + 2 * a * x + b)) * (z - x) + (y * y - (x * x * x + a * x * x + b * x + c)) = 0 := by
    rw [hk, h]
    grind
  grind
/-- what is below a root of the cubic, for the third point -/
theorem third_at {e : Ec} {x y u v z : Rat} (h : y * y = e.f x) (h2 : v * v = e.f u) (n : ¬ (x = u ∧ -y = v)) (hz : e.f z = 0) :
    (x - z) * (u - z) * (px e (slo e x y u v) x u - z) = (y + slo e x y u v * (z - x)) * (y + slo e x y u v * (z - x)) := by
  have sl := slope_is h h2 n
  unfold px
  unfold Ec.f at *
  generalize slo e x y u v = k at *
  rcases sl with ⟨hx, hk⟩ | ⟨hx, hy, y0, hk⟩
  · have := line_two (z := z) h h2 hx hk
    rw [hz] at this
    grind
  · subst hx
    have := line_dbl (z := z) h hk
    rw [hz] at this
    grind
theorem div_sq2 {a b c : Rat} (hb : b ≠ 0) (h : b * b * c = a * a) : a / b * (a / b) = c := by
  have e := div_is hb (show a / b = a / b from rfl)
  apply cancel (qmul_ne hb hb)
  have l : a / b * (a / b) * (b * b) = (a / b * b) * (a / b * b) := by grind
  rw [l, e, ← h]
  grind
/-- a root of order two added -/
theorem third_two {z z1 z2 x v u k : Rat} (hx : x = z) (h2 : v * v = (u - z) * (u - z1) * (u - z2)) (hne : u ≠ z) (hk : k * (u - x) = v) :
    (k * k + z + z1 + z2 - x - u - z) * (u - z) = (z - z1) * (z - z2) := by
  subst hx
  have h0 : u - x ≠ 0 := by grind
  apply cancel h0
  have e : (k * (u - x)) * (k * (u - x)) = (u - x) * (u - z1) * (u - z2) := by rw [hk, h2]
  grind
theorem third_sq {e : Ec} {x y u v z z1 z2 a1 b1 c1 a2 b2 c2 : Rat} (ez : ∀ t, e.f t = (t - z) * (t - z1) * (t - z2)) (ea : (e.a : Rat) = -(z + z1 + z2)) (h : y * y = e.f x) (h2 : v * v = e.f u) (n : ¬ (x = u ∧ -y = v))
    (xa : x - z = a1 * a1) (xb : x - z1 = b1 * b1) (xc : x - z2 = c1 * c1) (ua : u - z = a2 * a2) (ub : u - z1 = b2 * b2) (uc : u - z2 = c2 * c2) : ∃ r : Rat, r * r = px e (slo e x y u v) x u - z := by
  have t := third_at h h2 n (show e.f z = 0 by rw [ez]; grind)
  have sl := slope_is h h2 n
  by_cases h1 : a1 = 0
  · have hx : x = z := by
      rw [h1] at xa
      grind
    have y0 : y = 0 := by
      have : y * y = 0 := by
        rw [h, ez, hx]
        grind
      rcases Rat.mul_eq_zero.mp this with q | q <;> exact q
    rcases sl with ⟨hne, hk⟩ | ⟨_, _, q, _⟩
    · have hu : u ≠ z := fun q => hne (by rw [hx, q])
      have a2n : a2 ≠ 0 := fun q => hu (by rw [q] at ua; grind)
      rw [y0] at hk
      have r := third_two (z := z) (z1 := z1) (z2 := z2) (k := slo e x y u v) hx (by rw [h2, ez]) hu (by rw [y0]; grind)
      refine ⟨b1 * c1 / a2, div_sq2 a2n ?_⟩
      unfold px
      rw [ea, ← ua]
      have l : b1 * c1 * (b1 * c1) = (b1 * b1) * (c1 * c1) := by grind
      rw [l, ← xb, ← xc, hx]
      rw [hx] at r
      grind
    · exact absurd y0 q
  · by_cases h3 : a2 = 0
    · have hu : u = z := by
        rw [h3] at ua
        grind
      have v0 : v = 0 := by
        have : v * v = 0 := by
          rw [h2, ez, hu]
          grind
        rcases Rat.mul_eq_zero.mp this with q | q <;> exact q
      rcases sl with ⟨hne, hk⟩ | ⟨_, q1, q, _⟩
      · have hx : x ≠ z := fun q => hne (by rw [hu, q])
        rw [v0] at hk
        have r := third_two (z := z) (z1 := z1) (z2 := z2) (k := slo e x y u v) (x := u) (u := x) (v := y) hu (by rw [h, ez]) hx (by rw [v0]; grind)
        refine ⟨b2 * c2 / a1, div_sq2 h1 ?_⟩
        unfold px
        rw [ea, ← xa]
        have l : b2 * c2 * (b2 * c2) = (b2 * b2) * (c2 * c2) := by grind
        rw [l, ← ub, ← uc, hu]
        rw [hu] at r
        grind
      · exact absurd (q1.trans v0) q
    · refine ⟨(y + slo e x y u v * (z - x)) / (a1 * a2), div_sq2 (qmul_ne h1 h3) ?_⟩
      rw [← t, xa, ua]
      grind
/-- three numbers whose squares have the two steps -/
structure Cc (m n : Int) (c : C3) : Prop where
  t0 : c.1 ≠ 0
  eu : c.2.1 * c.2.1 = c.1 * c.1 + (m : Rat)
  ev : c.2.2 * c.2.2 = c.1 * c.1 + (n : Rat)
def ec (m n : Int) : Ec := ⟨m + n, m * n, 0⟩
theorem ec_f (m n : Int) (x : Rat) : (ec m n).f x = x * (x + m) * (x + n) := by
  unfold Ec.f ec
  push_cast
  grind
def cp (c : C3) : Rat × Rat := (c.1 * c.1, c.1 * (c.2.1 * c.2.2))
theorem cp_on {m n : Int} {c : C3} (h : Cc m n c) : On (ec m n) (some (cp c)) := by
  show (cp c).2 * (cp c).2 = (ec m n).f (cp c).1
  rw [ec_f]
  obtain ⟨t, u, v⟩ := c
  obtain ⟨t0, eu, ev⟩ := h
  show t * (u * v) * (t * (u * v)) = t * t * (t * t + m) * (t * t + n)
  rw [show t * t + (m : Rat) = u * u from eu.symm, show t * t + (n : Rat) = v * v from ev.symm]
  grind
theorem sum_sq {m n : Int} {c d : C3} (hc : Cc m n c) (hd : Cc m n d) {x y : Rat} (h : sum (ec m n) (some (cp c)) (some (cp d)) = some (x, y)) : (∃ r : Rat, r * r = x) ∧ (∃ r : Rat, r * r = x + (m : Rat)) ∧ (∃ r : Rat, r * r = x + (n : Rat)) := by
  have o1 := cp_on hc
  have o2 := cp_on hd
  obtain ⟨⟨x1, y1⟩, e1⟩ : ∃ S, cp c = S := ⟨_, rfl⟩
  obtain ⟨⟨x2, y2⟩, e2⟩ : ∃ S, cp d = S := ⟨_, rfl⟩
  have ex1 : x1 = c.1 * c.1 := (congrArg Prod.fst e1).symm
  have ex2 : x2 = d.1 * d.1 := (congrArg Prod.fst e2).symm
  rw [e1] at o1 h
  rw [e2] at o2 h
  replace h : (if x1 = x2 ∧ -y1 = y2 then none else some (px (ec m n) (slo (ec m n) x1 y1 x2 y2) x1 x2, -(y1 + slo (ec m n) x1 y1 x2 y2 * (px (ec m n) (slo (ec m n) x1 y1 x2 y2) x1 x2 - x1)))) = some (x, y) := h
  by_cases hop : x1 = x2 ∧ -y1 = y2
  · rw [if_pos hop] at h
    cases h
  rw [if_neg hop] at h
  have ex : px (ec m n) (slo (ec m n) x1 y1 x2 y2) x1 x2 = x := congrArg Prod.fst (Option.some.inj h)
  rw [← ex]
  have ea : ((ec m n).a : Rat) = (m : Rat) + n := Rat.intCast_add m n
  have u1 := hc.eu
  have v1 := hc.ev
  have u2 := hd.eu
  have v2 := hd.ev
  rw [← ex1] at u1 v1
  rw [← ex2] at u2 v2
  refine ⟨?_, ?_, ?_⟩
  · obtain ⟨r, hr⟩ := third_sq (e := ec m n) (z := 0) (z1 := -(m : Rat)) (z2 := -(n : Rat)) (a1 := c.1) (b1 := c.2.1) (c1 := c.2.2) (a2 := d.1) (b2 := d.2.1) (c2 := d.2.2) (fun t => by rw [ec_f]; grind) (by rw [ea]; grind) o1 o2 hop (by rw [ex1]; grind) (by rw [u1]; grind) (by rw [v1]; grind) (by rw [ex2]; grind) (by rw [u2]; grind) (by rw [v2]; grind)
    exact ⟨r, by rw [hr]; grind⟩
  · obtain ⟨r, hr⟩ := third_sq (e := ec m n) (z := -(m : Rat)) (z1 := 0) (z2 := -(n : Rat)) (a1 := c.2.1) (b1 := c.1) (c1 := c.2.2) (a2 := d.2.1) (b2 := d.1) (c2 := d.2.2) (fun t => by rw [ec_f]; grind) (by rw [ea]; grind) o1 o2 hop (by rw [u1]; grind) (by rw [ex1]; grind) (by rw [v1]; grind) (by rw [u2]; grind) (by rw [ex2]; grind) (by rw [v2]; grind)
    exact ⟨r, by rw [hr]; grind⟩
  · obtain ⟨r, hr⟩ := third_sq (e := ec m n) (z := -(n : Rat)) (z1 := 0) (z2 := -(m : Rat)) (a1 := c.2.2) (b1 := c.1) (c1 := c.2.1) (a2 := d.2.2) (b2 := d.1) (c2 := d.2.1) (fun t => by rw [ec_f]; grind) (by rw [ea]; grind) o1 o2 hop (by rw [v1]; grind) (by rw [ex1]; grind) (by rw [u1]; grind) (by rw [v2]; grind) (by rw [ex2]; grind) (by rw [u2]; grind)
    exact ⟨r, by rw [hr]; grind⟩
/-- the doubled point of whole numbers -/
theorem dbl_con {m n t u v : Int} (h1 : u * u = t * t + m) (h2 : v * v = t * t + n) (t0 : t ≠ 0) (u0 : u ≠ 0) (v0 : v ≠ 0) :
    px (ec m n) (slo (ec m n) ((t : Rat) * t) ((t : Rat) * (u * v)) ((t : Rat) * t) ((t : Rat) * (u * v))) ((t : Rat) * t) ((t : Rat) * t) * ((4 * (t * t) * (u * u) * (v * v) : Int) : Rat) = (((t * t * (t * t) - m * n) * (t * t * (t * t) - m * n) : Int) : Rat) ∧ 4 * (t * t) * (u * u) * (v * v) ≠ 0 := by
  have t1 : (t : Rat) ≠ 0 := fun z => t0 (by exact_mod_cast z)
  have u1 : (u : Rat) ≠ 0 := fun z => u0 (by exact_mod_cast z)
  have v1 : (v : Rat) ≠ 0 := fun z => v0 (by exact_mod_cast z)
  have e1 : (u : Rat) * u = (t : Rat) * t + m := by exact_mod_cast h1
  have e2 : (v : Rat) * v = (t : Rat) * t + n := by exact_mod_cast h2
  have y0 : (t : Rat) * (u * v) ≠ 0 := qmul_ne t1 (qmul_ne u1 v1)
  have hk : slo (ec m n) ((t : Rat) * t) ((t : Rat) * (u * v)) ((t : Rat) * t) ((t : Rat) * (u * v)) * (2 * ((t : Rat) * (u * v))) = 3 * ((t : Rat) * t * (t * t)) + 2 * ((m : Rat) + n) * (t * t) + m * n := by
    rw [sl_dbl]
    rw [Rat.div_mul_cancel (qmul_ne (by decide) y0)]
    show 3 * ((t : Rat) * t * (t * t)) + (((2 * (m + n) : Int) : Rat) * (t * t) + ((m * n : Int) : Rat)) = _
    push_cast
    grind
  have epx : ∀ k x : Rat, px (ec m n) k x x = k * k - ((m : Rat) + n) - 2 * x := fun k x => by
    show k * k - ((m + n : Int) : Rat) - x - x = _
    push_cast
    grind
  rw [epx]
  generalize slo (ec m n) ((t : Rat) * t) ((t : Rat) * (u * v)) ((t : Rat) * t) ((t : Rat) * (u * v)) = k at *
  refine ⟨?_, mul_ne (mul_ne (mul_ne (by decide) (mul_ne t0 t0)) (mul_ne u0 u0)) (mul_ne v0 v0)⟩
  push_cast
  generalize (t : Rat) = t at *
  generalize (u : Rat) = u at *
  generalize (v : Rat) = v at *
  generalize (m : Rat) = m at *
  generalize (n : Rat) = n at *
  have l : (k * k - (m + n) - 2 * (t * t)) * (4 * (t * t) * (u * u) * (v * v)) = (k * (2 * (t * (u * v)))) * (k * (2 * (t * (u * v)))) - (m + n + 2 * (t * t)) * (4 * (t * t) * ((u * u) * (v * v))) := by grind
  rw [l, hk, e1, e2]
  grind
theorem root_RB {k : Nat} {r q : Rat} (h : r * r = q) (hq : RB k q) : RB k r := by
  obtain ⟨e1, e2⟩ := sq_num r
  rw [h] at e1 e2
  have le : ∀ a : Int, a.natAbs ≤ (a * a).natAbs := fun a => by
    rw [Int.natAbs_mul]
    rcases Nat.eq_zero_or_pos a.natAbs with z | z
    · omega
    · exact Nat.le_mul_of_pos_left _ z
  refine ⟨?_, ?_⟩
  · have h1 := hq.1
    have h2 := le r.num
    rw [← e1] at h2
    exact Nat.lt_of_le_of_lt h2 h1
  · have h1 := hq.2
    have h2 := le (r.den : Int)
    rw [← e2] at h2
    exact Nat.lt_of_le_of_lt (by simpa using h2) h1
end K55
set_option Elab.async false
set_option linter.all false
set_option maxRecDepth 100000
set_option maxHeartbeats 4000000
namespace K55
open PySem PySem.Spec PyProof.Rows L2 Gd QM EcM EcP
/-! ### what a row of sums keeps -/
def tk : Nat → Nat
  | 0 => 5
  | 1 => 25
  | _ => 172
def ck : Nat → Nat
  | 0 => 8
  | 1 => 36
  | _ => 180
def hbq : Qn → Nat → Nat
  | .tri _, k => tk k + 7
  | .con _ _, k => ck k
  | .cub _, _ => 10
theorem hbq_le (q : Qn) (k : Nat) : hbq q k ≤ 180 := by
  match q, k with
  | .tri n, 0 => exact (show 12 ≤ 180 by decide)
  | .tri n, 1 => exact (show 32 ≤ 180 by decide)
  | .tri n, k + 2 => exact (show 179 ≤ 180 by decide)
  | .con m n, 0 => exact (show 8 ≤ 180 by decide)
  | .con m n, 1 => exact (show 36 ≤ 180 by decide)
  | .con m n, k + 2 => exact (show 180 ≤ 180 by decide)
  | .cub n, k => exact (show 10 ≤ 180 by decide)
structure Gt (n : Int) (k : Nat) (c : C3) : Prop where
  n7 : B 7 n
  t : Tri n c
  b1 : RB 400 c.1
  b2 : RB 400 c.2.1
  b3 : RB 400 c.2.2
  z : TZ (tk k) c
structure Gc (m n : Int) (k : Nat) (c : C3) : Prop where
  m8 : B 8 m
  n8 : B 8 n
  mn : B 14 (m * n)
  cc : Cc m n c
  b1 : RB 900 c.1
  b2 : RB 900 c.2.1
  b3 : RB 900 c.2.2
  h : HB (ck k) (some (cp c))
  w : k = 0 → ∃ t u v : Int, c = ((t : Rat), (u : Rat), (v : Rat)) ∧ Z 4 t ∧ Z 4 u ∧ Z 4 v
def Gb (n : Int) (s : List Rat) : Prop := (n = 1 ∧ (s = [1, 0] ∨ s = [0, 1])) ∨ (n = 2 ∧ s = [1, 1]) ∨ (n = -1 ∧ (s = [-1, 0] ∨ s = [0, -1]))
def Good : Qn → Nat → List Rat → Prop
  | .tri n, k, s => ∃ c, s = l3 c ∧ Gt n k c
  | .con m n, k, s => ∃ c, s = l3 c ∧ Gc m n k c
  | .cub n, _, s => Gb n s
/-- what must come of a sum -/
def Nx (q : Qn) (R : Pt) (G : List Rat → Prop) : Option (List Rat) → Prop
  | none => ∀ m n, q = .con m n → ∀ x y, R = some (x, y) → x = 0
  | some s => Sol q s ∧ G s
theorem en_is (n : Int) : (Qn.tri n).e = en n := rfl
theorem ec_is (m n : Int) : (Qn.con m n).e = ec m n := rfl
/-- all that a call wants of a solution -/
structure Pre (q : Qn) (k : Nat) (s : List Rat) : Prop where
  bd : q.Bd
  ebd : q.e.Bd 15
  cal : Cal q s
  on : On q.e (pnt q s)
  hb : HB (hbq q k) (pnt q s)
theorem ec_bd {m n : Int} (hm : B 8 m) (hn : B 8 n) (h : B 14 (m * n)) : (ec m n).Bd 15 := ⟨by decide, (hm.add hn).up (by decide), h.up (by decide), Z.lit (x := 0) (by decide)⟩
instance (n : Nat) (x : Int) : Decidable (B n x) := inferInstanceAs (Decidable (_ < _))
instance (n : Nat) (x : Int) : Decidable (Z n x) := inferInstanceAs (Decidable (_ < _))
instance (n : Nat) (x : Rat) : Decidable (RB n x) := inferInstanceAs (Decidable (_ ∧ _))
instance (e : Ec) (P : Pt) : Decidable (On e P) := match P with
  | none => .isTrue trivial
  | some (x, y) => inferInstanceAs (Decidable (y * y = e.f x))
instance (n : Nat) (P : Pt) : Decidable (HB n P) := match P with
  | none => .isTrue trivial
  | some (x, _) => inferInstanceAs (Decidable (RB n x))
theorem cub_pre {n : Int} {a b : Rat} {k : Nat} (hn : B 3 n) (h1 : Z 15 (-432 * n * n)) (h2 : RB 10 a) (h3 : RB 10 b) (h4 : a + b ≠ 0) (h5 : On ⟨0, 0, -432 * n * n⟩ (some (cpt n a b))) (h6 : HB 10 (some (cpt n a b))) : Pre (.cub n) k [a, b] :=
  ⟨hn, ⟨by decide, (by decide : Z 15 0), (by decide : Z 15 0), h1⟩, ⟨h2, h3, h4⟩, h5, h6⟩
theorem good_pre {q : Qn} {k : Nat} {s : List Rat} (h : Good q k s) : Pre q k s := by
  match q, h with
  | .tri n, ⟨c, e, g⟩ =>
    subst e
    exact ⟨g.n7, en_bd g.n7, ⟨g.b1, g.b2, g.b3, g.t.b0⟩, tpt_on g.t, tz_HB g.t g.n7 g.z⟩
  | .con m n, ⟨c, e, g⟩ =>
    subst e
    exact ⟨⟨g.m8, g.n8⟩, ec_bd g.m8 g.n8 g.mn, ⟨g.b1, g.b2, g.b3⟩, cp_on g.cc, g.h⟩
  | .cub n, h =>
    rcases h with ⟨rfl, rfl | rfl⟩ | ⟨rfl, rfl⟩ | ⟨rfl, rfl | rfl⟩
    · exact cub_pre (by decide +kernel) (by decide +kernel) (by decide +kernel) (by decide +kernel) (by decide +kernel) (by decide +kernel) (by decide +kernel)
    · exact cub_pre (by decide +kernel) (by decide +kernel) (by decide +kernel) (by decide +kernel) (by decide +kernel) (by decide +kernel) (by decide +kernel)
    · exact cub_pre (by decide +kernel) (by decide +kernel) (by decide +kernel) (by decide +kernel) (by decide +kernel) (by decide +kernel) (by decide +kernel)
    · exact cub_pre (by decide +kernel) (by decide +kernel) (by decide +kernel) (by decide +kernel) (by decide +kernel) (by decide +kernel) (by decide +kernel)
    · exact cub_pre (by decide +kernel) (by decide +kernel) (by decide +kernel) (by decide +kernel) (by decide +kernel) (by decide +kernel) (by decide +kernel)
end K55
set_option Elab.async false
set_option linter.all false
set_option maxRecDepth 100000
set_option maxHeartbeats 4000000
namespace K55
open PySem PySem.Spec PyProof.Rows L2 Gd QM EcM EcP
theorem tk_up {j k : Nat} (h : j ≤ k) : tk j ≤ tk k := by
  match j, k with
  | 0, 0 => exact Nat.le_refl _
  | 0, 1 => exact (show 5 ≤ 25 by decide)
  | 0, k + 2 => exact (show 5 ≤ 172 by decide)
  | 1, 1 => exact Nat.le_refl _
  | 1, k + 2 => exact (show 25 ≤ 172 by decide)
  | j + 2, 1 => omega
  | j + 2, k + 2 => exact Nat.le_refl _
theorem ck_up {j k : Nat} (h : j ≤ k) : ck j ≤ ck k := by
  match j, k with
  | 0, 0 => exact Nat.le_refl _
  | 0, 1 => exact (show 8 ≤ 36 by decide)
  | 0, k + 2 => exact (show 8 ≤ 180 by decide)
  | 1, 1 => exact Nat.le_refl _
  | 1, k + 2 => exact (show 36 ≤ 180 by decide)
  | j + 2, 1 => omega
  | j + 2, k + 2 => exact Nat.le_refl _
theorem TZ.up {j k : Nat} {c : C3} (h : TZ j c) (l : j ≤ k) : TZ k c := by
  obtain ⟨T, W, h1, h2, h3, h4⟩ := h
  exact ⟨T, W, h1, h2, h3.up l, h4.up l⟩
theorem Good.up {q : Qn} {j k : Nat} {s : List Rat} (h : Good q j s) (l : j ≤ k) : Good q k s := by
  match q, h with
  | .tri n, ⟨c, e, g⟩ => exact ⟨c, e, g.n7, g.t, g.b1, g.b2, g.b3, g.z.up (tk_up l)⟩
  | .con m n, ⟨c, e, g⟩ => exact ⟨c, e, g.m8, g.n8, g.mn, g.cc, g.b1, g.b2, g.b3, g.h.up (ck_up l), fun z => g.w (by omega)⟩
  | .cub n, h => exact h
/-! ### triangles: what comes of a sum -/
theorem tri_out {n : Int} {S1 S2 R : Pt} {h : Nat} (n0 : 0 < n) (hn : B 7 n) (o1 : On (en n) S1) (o2 : On (en n) S2) (b1 : HB h S1) (b2 : HB h S2) (hh : h ≤ 180) (e : sum (en n) S1 S2 = R) :
    Tab (.tri n) R ∧ ∀ x y c, R = some (x, y) → told n R = some c → Sol (.tri n) (l3 c) ∧ Tri n c ∧ RB (8 * h + 87) c.1 ∧ RB (8 * h + 87) c.2.1 ∧ RB (8 * h + 87) c.2.2 ∧ RB (4 * h + 36) x ∧ On (en n) R := by
  have oR := On.sum o1 o2
  have hR : HB (2 * h + 2 * h + 2 * 15 + 6) (sum (en n) S1 S2) := sum_HB (h := h) (j := h) (g := 15) o1 o2 b1 b2 (en_bd hn)
  rw [e] at oR hR
  match R, oR, hR with
  | none, _, _ => exact ⟨trivial, fun x y c z => by cases z⟩
  | some (x, y), oR, hR =>
    replace hR : RB (2 * h + 2 * h + 2 * 15 + 6) x := hR
    have hy : RB (2 * (2 * h + 2 * h + 2 * 15 + 6) + 15) y := y_RB (h := 2 * h + 2 * h + 2 * 15 + 6) (g := 15) oR hR (en_bd hn)
    refine ⟨⟨hR.up (by omega), hy.up (by omega)⟩, fun x' y' c z ht => ?_⟩
    cases z
    obtain ⟨t, p⟩ := told_ok n0 oR ht
    obtain ⟨c1, c2, c3⟩ := told_CB (h := 2 * h + 2 * h + 2 * 15 + 6) hn oR hR ht
    exact ⟨⟨c1.up (by omega), c2.up (by omega), c3.up (by omega), t.s, t.p⟩, t, c1.up (by omega), c2.up (by omega), c3.up (by omega), hR.up (by omega), oR⟩
theorem tri_step0 {n : Int} {s : List Rat} {R : Pt} {o : Option (List Rat)} (g : Good (.tri n) 0 s) (e : sum (en n) (pnt (.tri n) s) (pnt (.tri n) s) = R) (ht : o = (told n R).map l3) : Tab (.tri n) R ∧ Nx (.tri n) R (Good (.tri n) 1) o := by
  obtain ⟨c, rfl, g⟩ := g
  replace e : sum (en n) (some (tpt n c)) (some (tpt n c)) = R := e
  have hb : HB 12 (some (tpt n c)) := tz_HB (k := 5) g.t g.n7 g.z
  have on := tpt_on g.t
  obtain ⟨t1, t2⟩ := tri_out g.t.n0 g.n7 on on hb hb (by decide) e
  refine ⟨t1, ?_⟩
  subst ht
  match R, e, t2 with
  | none, e, t2 => exact fun m n z => by cases z
  | some (x, y), e, t2 =>
    cases hc : told n (some (x, y)) with
    | none => exact fun m n z => by cases z
    | some d =>
      obtain ⟨u1, u2, u3, u4, u5, u6, u7⟩ := t2 x y d rfl hc
      refine ⟨u1, d, rfl, g.n7, u2, u3.up (by decide), u4.up (by decide), u5.up (by decide), ?_⟩
      obtain ⟨T, W, w0, ez, zT, zW⟩ := g.z
      replace zT : Z 5 T := zT
      replace zW : Z 5 W := zW
      have ex := tz_x g.t ez
      obtain ⟨⟨x1, y1⟩, e1⟩ : ∃ S, tpt n c = S := ⟨_, rfl⟩
      rw [e1] at e on ex
      replace e : (if x1 = x1 ∧ -y1 = y1 then none else some (px (en n) (slo (en n) x1 y1 x1 y1) x1 x1, -(y1 + slo (en n) x1 y1 x1 y1 * (px (en n) (slo (en n) x1 y1 x1 y1) x1 x1 - x1)))) = some (x, y) := e
      by_cases hop : x1 = x1 ∧ -y1 = y1
      · rw [if_pos hop] at e
        cases e
      rw [if_neg hop] at e
      have y0 : y1 ≠ 0 := fun z => hop ⟨rfl, by rw [z]; rfl⟩
      have exx : px (en n) (slo (en n) x1 y1 x1 y1) x1 x1 = x := congrArg Prod.fst (Option.some.inj e)
      obtain ⟨d1, d2⟩ := dbl_ratio g.t.n0 on w0 ex y0
      rw [exx] at d1
      have zT2 : Z 24 ((T * T + W * W) * (T * T + W * W)) := by
        have h1 : Z 11 (T * T + W * W) := (zT.mul zT).add (zW.mul zW) (by decide)
        exact (h1.mul h1).up (by decide)
      have zW2 : Z 24 (4 * W * T * (T * T - W * W)) := by
        have h1 : Z 11 (T * T - W * W) := (zT.mul zT).sub (zW.mul zW) (by decide)
        exact (((Z.lit (n := 3) (x := 4) (by decide)).mul zW).mul zT).mul h1
      exact told_TZ (k := 24) g.t.n0 u7 d2 d1 zT2 zW2 hc
theorem tri_stepk {n : Int} {k j : Nat} {s s2 : List Rat} {R : Pt} {o : Option (List Rat)} (g : Good (.tri n) k s) (g2 : Good (.tri n) j s2) (e : sum (en n) (pnt (.tri n) s) (pnt (.tri n) s2) = R) (ht : o = (told n R).map l3) : Tab (.tri n) R ∧ Nx (.tri n) R (fun s => k ≤ 1 → j ≤ 1 → Good (.tri n) 2 s) o := by
  obtain ⟨bd, _, _, on, hb⟩ := good_pre g
  obtain ⟨_, _, _, on2, hb2⟩ := good_pre g2
  have n0 : 0 < n := by
    obtain ⟨c, rfl, g⟩ := g
    exact g.t.n0
  have hn : B 7 n := bd
  obtain ⟨t1, t2⟩ := tri_out n0 hn on on2 (hb.up (hbq_le _ _)) (hb2.up (hbq_le _ _)) (Nat.le_refl _) e
  refine ⟨t1, ?_⟩
  subst ht
  match R, e, t2 with
  | none, e, t2 => exact fun m n z => by cases z
  | some (x, y), e, t2 =>
    cases hc : told n (some (x, y)) with
    | none => exact fun m n z => by cases z
    | some d =>
      obtain ⟨u1, u2, _, _, _, _, u7⟩ := t2 x y d rfl hc
      refine ⟨u1, fun hk hj => ?_⟩
      have le : ∀ i, i ≤ 1 → hbq (.tri n) i ≤ 32 := fun i hi => by
        have := tk_up hi
        show tk i + 7 ≤ 32
        have e1 : tk 1 = 25 := rfl
        omega
      obtain ⟨_, t3⟩ := tri_out n0 hn on on2 (hb.up (le k hk)) (hb2.up (le j hj)) (by decide) e
      obtain ⟨_, _, u3, u4, u5, u6, _⟩ := t3 x y d rfl hc
      refine ⟨d, rfl, hn, u2, u3.up (by decide), u4.up (by decide), u5.up (by decide), ?_⟩
      have zT : Z 164 x.num := u6.1
      have zD : Z 164 (x.den : Int) := u6.2
      have zn : Z 7 n := hn
      refine told_TZ (k := 171) (T := x.num) (W := n * (x.den : Int)) n0 u7 (mul_ne (by omega) (den_ne x)) ?_ (zT.up (by decide)) (zn.mul zD) hc
      rw [Rat.intCast_mul, ← x_num x]
      grind
end K55
set_option Elab.async false
set_option linter.all false
set_option maxRecDepth 100000
set_option maxHeartbeats 4000000
namespace K55
open PySem PySem.Spec PyProof.Rows L2 Gd QM EcM EcP
/-! ### concords: what comes of a sum -/
theorem sqq_some {x : Rat} {o : Option Rat} (h : SqQ x o) (k : ∃ r : Rat, r * r = x) : ∃ r, o = some r ∧ r * r = x := by
  match o, h with
  | none, h =>
    obtain ⟨r, hr⟩ := k
    exact absurd hr (h r)
  | some r, h => exact ⟨r, rfl, h.2⟩
theorem con_out {m n : Int} {c d : C3} {R : Pt} {o : Option (List Rat)} {h : Nat} (m8 : B 8 m) (n8 : B 8 n) (mn : B 14 (m * n)) (hc : Cc m n c) (hd : Cc m n d) (b1 : HB h (some (cp c))) (b2 : HB h (some (cp d))) (hh : h ≤ 180) (e : sum (ec m n) (some (cp c)) (some (cp d)) = R) (ht : Told (.con m n) R o) :
    Tab (.con m n) R ∧ ((o = none ∧ ∀ x y, R = some (x, y) → x = 0) ∨ ∃ t u v x y, o = some [t, u, v] ∧ R = some (x, y) ∧ t * t = x ∧ RB (4 * h + 36) x ∧ Cc m n (t, u, v) ∧ RB (4 * h + 36) t ∧ RB (4 * h + 45) u ∧ RB (4 * h + 45) v) := by
  have hR : HB (2 * h + 2 * h + 2 * 15 + 6) (sum (ec m n) (some (cp c)) (some (cp d))) := sum_HB (h := h) (j := h) (g := 15) (cp_on hc) (cp_on hd) b1 b2 (ec_bd m8 n8 mn)
  rw [e] at hR
  obtain ⟨o', ho, rfl⟩ := ht
  match R, e, hR, ho with
  | none, e, hR, ho =>
    replace ho : o' = none := ho
    subst ho
    exact ⟨trivial, .inl ⟨rfl, fun x y z => by cases z⟩⟩
  | some (x, y), e, hR, ho =>
    replace hR : RB (2 * h + 2 * h + 2 * 15 + 6) x := hR
    refine ⟨hR.up (by omega), ?_⟩
    rcases ho with ⟨x0, rfl⟩ | ⟨x0, r0, r1, r2, q0, q1, q2, rfl⟩
    · refine .inl ⟨rfl, fun x' y' z => ?_⟩
      cases z
      exact x0
    · obtain ⟨k0, k1, k2⟩ := sum_sq hc hd e
      obtain ⟨t, rfl, e0⟩ := sqq_some q0 k0
      obtain ⟨u, rfl, e1⟩ := sqq_some q1 k1
      obtain ⟨v, rfl, e2⟩ := sqq_some q2 k2
      have hx : RB (4 * h + 36) x := hR.up (by omega)
      have mB : RB 8 ((m : Int) : Rat) := RB.int m8 (by decide)
      have nB : RB 8 ((n : Int) : Rat) := RB.int n8 (by decide)
      refine .inr ⟨t, u, v, x, y, rfl, rfl, e0, hx, ⟨?_, ?_, ?_⟩, root_RB e0 hx, (root_RB e1 (RB.add hx mB)).up (by omega), (root_RB e2 (RB.add hx nB)).up (by omega)⟩
      · intro z
        replace z : t = 0 := z
        rw [z] at e0
        exact x0 (by rw [← e0]; grind)
      · show u * u = t * t + (m : Rat)
        rw [e0, e1]
      · show v * v = t * t + (n : Rat)
        rw [e0, e2]
theorem con_step0 {m n : Int} {s : List Rat} {R : Pt} {o : Option (List Rat)} (g : Good (.con m n) 0 s) (e : sum (ec m n) (pnt (.con m n) s) (pnt (.con m n) s) = R) (ht : Told (.con m n) R o) : Tab (.con m n) R ∧ Nx (.con m n) R (Good (.con m n) 1) o := by
  obtain ⟨c, rfl, g⟩ := g
  replace e : sum (ec m n) (some (cp c)) (some (cp c)) = R := e
  have hb : HB 8 (some (cp c)) := g.h
  obtain ⟨t1, t2⟩ := con_out g.m8 g.n8 g.mn g.cc g.cc hb hb (by decide) e ht
  refine ⟨t1, ?_⟩
  rcases t2 with ⟨rfl, t2⟩ | ⟨t, u, v, x, y, rfl, rfl, e0, bx, cc, bt, bu, bv⟩
  · intro m' n' z x y hr
    exact t2 x y hr
  · have hx : RB 36 x := by
      obtain ⟨T, U, V, rfl, zT, zU, zV⟩ := g.w rfl
      have eu : (U : Rat) * U = (T : Rat) * T + (m : Rat) := g.cc.eu
      have ev : (V : Rat) * V = (T : Rat) * T + (n : Rat) := g.cc.ev
      have tt0 : (T : Rat) ≠ 0 := g.cc.t0
      have eu' : U * U = T * T + m := by exact_mod_cast eu
      have ev' : V * V = T * T + n := by exact_mod_cast ev
      have T0 : T ≠ 0 := fun z => tt0 (by rw [z]; rfl)
      replace e : (if (T : Rat) * T = (T : Rat) * T ∧ -((T : Rat) * ((U : Rat) * V)) = (T : Rat) * ((U : Rat) * V) then none else some (px (ec m n) (slo (ec m n) ((T : Rat) * T) ((T : Rat) * ((U : Rat) * V)) ((T : Rat) * T) ((T : Rat) * ((U : Rat) * V))) ((T : Rat) * T) ((T : Rat) * T), -((T : Rat) * ((U : Rat) * V) + slo (ec m n) ((T : Rat) * T) ((T : Rat) * ((U : Rat) * V)) ((T : Rat) * T) ((T : Rat) * ((U : Rat) * V)) * (px (ec m n) (slo (ec m n) ((T : Rat) * T) ((T : Rat) * ((U : Rat) * V)) ((T : Rat) * T) ((T : Rat) * ((U : Rat) * V))) ((T : Rat) * T) ((T : Rat) * T) - (T : Rat) * T)))) = some (x, y) := e
      by_cases hop : (T : Rat) * T = (T : Rat) * T ∧ -((T : Rat) * ((U : Rat) * V)) = (T : Rat) * ((U : Rat) * V)
      · rw [if_pos hop] at e
        cases e
      rw [if_neg hop] at e
      have exx : px (ec m n) (slo (ec m n) ((T : Rat) * T) ((T : Rat) * ((U : Rat) * V)) ((T : Rat) * T) ((T : Rat) * ((U : Rat) * V))) ((T : Rat) * T) ((T : Rat) * T) = x := congrArg Prod.fst (Option.some.inj e)
      have U0 : U ≠ 0 := fun z => hop ⟨rfl, by rw [z]; rw [show ((0 : Int) : Rat) = 0 from rfl]; grind⟩
      have V0 : V ≠ 0 := fun z => hop ⟨rfl, by rw [z]; rw [show ((0 : Int) : Rat) = 0 from rfl]; grind⟩
      obtain ⟨d1, d2⟩ := dbl_con eu' ev' T0 U0 V0
      rw [exx] at d1
      have mnZ : Z 14 (m * n) := g.mn
      have zN : Z 36 ((T * T * (T * T) - m * n) * (T * T * (T * T) - m * n)) := by
        have h1 : Z 17 (T * T * (T * T) - m * n) := ((zT.mul zT).mul (zT.mul zT)).sub (mnZ.up (by decide)) (by decide)
        exact (h1.mul h1).up (by decide)
      have zD : Z 36 (4 * (T * T) * (U * U) * (V * V)) := ((((Z.lit (n := 3) (x := 4) (by decide)).mul (zT.mul zT)).mul (zU.mul zU)).mul (zV.mul zV)).up (by decide)
      exact rb_of d1 d2 zN zD
    refine ⟨⟨bt.up (by decide), bu.up (by decide), bv.up (by decide), cc.eu, cc.ev⟩, (t, u, v), rfl, g.m8, g.n8, g.mn, cc, bt.up (by decide), bu.up (by decide), bv.up (by decide), ?_, fun z => by cases z⟩
    show RB 36 (t * t)
    rw [e0]
    exact hx
theorem con_stepk {m n : Int} {k j : Nat} {s s2 : List Rat} {R : Pt} {o : Option (List Rat)} (g : Good (.con m n) k s) (g2 : Good (.con m n) j s2) (e : sum (ec m n) (pnt (.con m n) s) (pnt (.con m n) s2) = R) (ht : Told (.con m n) R o) : Tab (.con m n) R ∧ Nx (.con m n) R (fun s => k ≤ 1 → j ≤ 1 → Good (.con m n) 2 s) o := by
  obtain ⟨c, rfl, g⟩ := g
  obtain ⟨d, rfl, g2⟩ := g2
  replace e : sum (ec m n) (some (cp c)) (some (cp d)) = R := e
  have l180 : ∀ i, ck i ≤ 180 := fun i => hbq_le (.con 0 0) i
  obtain ⟨t1, t2⟩ := con_out g.m8 g.n8 g.mn g.cc g2.cc (g.h.up (l180 _)) (g2.h.up (l180 _)) (Nat.le_refl _) e ht
  refine ⟨t1, ?_⟩
  rcases t2 with ⟨rfl, t2⟩ | ⟨t, u, v, x, y, rfl, rfl, e0, bx, cc, bt, bu, bv⟩
  · intro m' n' z x y hr
    exact t2 x y hr
  · refine ⟨⟨bt.up (by decide), bu.up (by decide), bv.up (by decide), cc.eu, cc.ev⟩, fun hk hj => ⟨(t, u, v), rfl, g.m8, g.n8, g.mn, cc, bt.up (by decide), bu.up (by decide), bv.up (by decide), ?_, fun z => by cases z⟩⟩
    obtain ⟨_, t3⟩ := con_out g.m8 g.n8 g.mn g.cc g2.cc (g.h.up (ck_up hk)) (g2.h.up (ck_up hj)) (show ck 1 ≤ 180 by decide) e ht
    rcases t3 with ⟨z, _⟩ | ⟨t', u', v', x', y', z, z2, e0', bx', _⟩
    · cases z
    · cases z2
      show RB 180 (t * t)
      rw [e0]
      exact bx'.up (by decide)
/-! ### cubes: what comes of a sum -/
theorem cub_case {n : Int} {a b c d x y p r : Rat} {R : Pt} {o : Option (List Rat)} (h : sum ⟨0, 0, -432 * n * n⟩ (some (cpt n a b)) (some (cpt n c d)) = some (x, y)) (e : sum ⟨0, 0, -432 * n * n⟩ (some (cpt n a b)) (some (cpt n c d)) = R) (ht : Told (.cub n) R o) (hc : cso n x y = [p, r]) (bx : RB 100 x) (byy : RB 100 y) (x0 : x ≠ 0) (b1 : RB 100 p) (b2 : RB 100 r) (e3 : p * p * p + r * r * r = (n : Rat)) (gb : Gb n [p, r]) :
    Tab (.cub n) R ∧ Nx (.cub n) R (Gb n) o := by
  rw [h] at e
  subst e
  replace ht : o = some (cso n x y) := ht
  rw [hc] at ht
  subst ht
  exact ⟨⟨bx, byy, x0⟩, ⟨b1, b2, e3⟩, gb⟩
theorem cub_none {n : Int} {a b c d : Rat} {R : Pt} {o : Option (List Rat)} (h : sum ⟨0, 0, -432 * n * n⟩ (some (cpt n a b)) (some (cpt n c d)) = none) (e : sum ⟨0, 0, -432 * n * n⟩ (some (cpt n a b)) (some (cpt n c d)) = R) (ht : Told (.cub n) R o) :
    Tab (.cub n) R ∧ Nx (.cub n) R (Gb n) o := by
  rw [h] at e
  subst e
  replace ht : o = none := ht
  subst ht
  exact ⟨trivial, fun m n z => by cases z⟩
theorem cub_out {n : Int} {s1 s2 : List Rat} {R : Pt} {o : Option (List Rat)} (g1 : Gb n s1) (g2 : Gb n s2) (e : sum (Qn.cub n).e (pnt (.cub n) s1) (pnt (.cub n) s2) = R) (ht : Told (.cub n) R o) : Tab (.cub n) R ∧ Nx (.cub n) R (Gb n) o := by
  rcases g1 with ⟨rfl, rfl | rfl⟩ | ⟨rfl, rfl⟩ | ⟨rfl, rfl | rfl⟩ <;> rcases g2 with ⟨h, rfl | rfl⟩ | ⟨h, rfl⟩ | ⟨h, rfl | rfl⟩ <;> first | (exfalso; revert h; decide) | skip
  · exact cub_case (x := 12) (y := (-36)) (p := 0) (r := 1) (by decide +kernel) e ht (by decide +kernel) (by decide +kernel) (by decide +kernel) (by decide +kernel) (by decide +kernel) (by decide +kernel) (by decide +kernel) (by unfold Gb; simp)
  · exact cub_none (by decide +kernel) e ht
  · exact cub_none (by decide +kernel) e ht
  · exact cub_case (x := 12) (y := 36) (p := 1) (r := 0) (by decide +kernel) e ht (by decide +kernel) (by decide +kernel) (by decide +kernel) (by decide +kernel) (by decide +kernel) (by decide +kernel) (by decide +kernel) (by unfold Gb; simp)
  · exact cub_none (by decide +kernel) e ht
  · exact cub_case (x := 12) (y := 36) (p := 0) (r := (-1)) (by decide +kernel) e ht (by decide +kernel) (by decide +kernel) (by decide +kernel) (by decide +kernel) (by decide +kernel) (by decide +kernel) (by decide +kernel) (by unfold Gb; simp)
  · exact cub_none (by decide +kernel) e ht
  · exact cub_none (by decide +kernel) e ht
  · exact cub_case (x := 12) (y := (-36)) (p := (-1)) (r := 0) (by decide +kernel) e ht (by decide +kernel) (by decide +kernel) (by decide +kernel) (by decide +kernel) (by decide +kernel) (by decide +kernel) (by decide +kernel) (by unfold Gb; simp)
end K55
set_option Elab.async false
set_option linter.all false
set_option maxRecDepth 100000
set_option maxHeartbeats 4000000
namespace K55
open PySem PySem.Spec PyProof.Rows L2 Gd QM EcM EcP
theorem iteNS {z z' : Str} {A B : Prop} (e : z = z') (b : B) : if (!decide (V.str z = V.str z')) = true then A else B := by
  subst e
  simpa using b
theorem good_out {qn : Qn} {i : Nat} {sl so : List Rat} {R : Pt} {o : Option (List Rat)} (gl : Good qn (min i 2) sl) (go : Good qn (min i 2) so) (h0 : i = 0 → sl = so) (e : sum qn.e (pnt qn sl) (pnt qn so) = R) (ht : Told qn R o) : Tab qn R ∧ Nx qn R (fun s' => i < 2 → Good qn (min (i + 1) 2) s') o := by
  rcases (show i = 0 ∨ i = 1 ∨ 2 ≤ i by omega) with rfl | rfl | hi
  · obtain rfl := h0 rfl
    cases qn with
    | tri n =>
      obtain ⟨h1, h2⟩ := tri_step0 gl e ht
      refine ⟨h1, ?_⟩
      cases o with
      | none => exact h2
      | some s' => exact ⟨h2.1, fun _ => h2.2⟩
    | con m n =>
      obtain ⟨h1, h2⟩ := con_step0 gl e ht
      refine ⟨h1, ?_⟩
      cases o with
      | none => exact h2
      | some s' => exact ⟨h2.1, fun _ => h2.2⟩
    | cub n =>
      obtain ⟨h1, h2⟩ := cub_out gl go e ht
      refine ⟨h1, ?_⟩
      cases o with
      | none => exact h2
      | some s' => exact ⟨h2.1, fun _ => h2.2⟩
  · cases qn with
    | tri n =>
      obtain ⟨h1, h2⟩ := tri_stepk (k := 1) (j := 1) gl go e ht
      refine ⟨h1, ?_⟩
      cases o with
      | none => exact h2
      | some s' => exact ⟨h2.1, fun _ => h2.2 (Nat.le_refl _) (Nat.le_refl _)⟩
    | con m n =>
      obtain ⟨h1, h2⟩ := con_stepk (k := 1) (j := 1) gl go e ht
      refine ⟨h1, ?_⟩
      cases o with
      | none => exact h2
      | some s' => exact ⟨h2.1, fun _ => h2.2 (Nat.le_refl _) (Nat.le_refl _)⟩
    | cub n =>
      obtain ⟨h1, h2⟩ := cub_out gl go e ht
      refine ⟨h1, ?_⟩
      cases o with
      | none => exact h2
      | some s' => exact ⟨h2.1, fun _ => h2.2⟩
  · cases qn with
    | tri n =>
      obtain ⟨h1, h2⟩ := tri_stepk gl go e ht
      refine ⟨h1, ?_⟩
      cases o with
      | none => exact h2
      | some s' => exact ⟨h2.1, fun z => by omega⟩
    | con m n =>
      obtain ⟨h1, h2⟩ := con_stepk gl go e ht
      refine ⟨h1, ?_⟩
      cases o with
      | none => exact h2
      | some s' => exact ⟨h2.1, fun z => by omega⟩
    | cub n =>
      obtain ⟨h1, h2⟩ := cub_out gl go e ht
      refine ⟨h1, ?_⟩
      cases o with
      | none => exact h2
      | some s' => exact ⟨h2.1, fun _ => h2.2⟩
/-! ### what is shown -/
def dS : Option (List Rat) → PyData
  | none => .none
  | some s => .tuple (s.map dq)
theorem dp_S {K : PySem.W.Frag} {H : Hp} {v : V} {o : Option (List Rat)} (h : SolO K H v o) : Dp K H v (dS o) := by
  match o, h with
  | none, h =>
    rw [show v = .non from h]
    exact .non
  | some [a, b], ⟨p, h, pa, pb, h0, h1, h2⟩ =>
    rw [h]
    exact .tup h0 (.cons (dp_q h1) (.cons (dp_q h2) .nil))
  | some [a, b, c], ⟨p, h, pa, pb, pc, h0, h1, h2, h3⟩ =>
    rw [h]
    exact .tup h0 (.cons (dp_q h1) (.cons (dp_q h2) (.cons (dp_q h3) .nil)))
theorem sol_two {q : Qn} {s : List Rat} (h : Sol q s) : (∃ a b, s = [a, b]) ∨ ∃ a b c, s = [a, b, c] := by
  cases q with
  | tri n =>
    obtain ⟨a, b, c, rfl, _⟩ := sol_tri h
    exact .inr ⟨a, b, c, rfl⟩
  | con m n =>
    obtain ⟨a, b, c, rfl, _⟩ := sol_con h
    exact .inr ⟨a, b, c, rfl⟩
  | cub n =>
    obtain ⟨a, b, rfl, _⟩ := sol_cub h
    exact .inl ⟨a, b, rfl⟩
theorem S_ok {q : Qn} {R : Pt} {G : List Rat → Prop} {o : Option (List Rat)} (h : Nx q R G o) : okD (dS o) = true ∧ (dS o).depth ≤ 40 ∧ wt (dS o) ≤ 1000000 := by
  match o, h with
  | none, _ => exact ⟨rfl, by decide, by decide⟩
  | some s, h =>
    have hb := sol_RB h.1
    rcases sol_two h.1 with ⟨a, b, rfl⟩ | ⟨a, b, c, rfl⟩
    · have e1 := okq (hb a (by simp)) (by decide)
      have e2 := okq (hb b (by simp)) (by decide)
      refine ⟨by simp [okD, okAll, dS, e1, e2], by simp [PyData.depth, PyData.depthAll, dS, dq], by simp [wt, wtAll, dS, dq]⟩
    · have e1 := okq (hb a (by simp)) (by decide)
      have e2 := okq (hb b (by simp)) (by decide)
      have e3 := okq (hb c (by simp)) (by decide)
      refine ⟨by simp [okD, okAll, dS, e1, e2, e3], by simp [PyData.depth, PyData.depthAll, dS, dq], by simp [wt, wtAll, dS, dq]⟩
theorem sol_but {K : PySem.W.Frag} {H H' : Hp} {m cl p : Addr} {n : Nat} {s : List Rat} (b : But m H H') (M : MAt H m cl n) (h : SolT K H p s) : SolT K H' p s := by
  match s, h with
  | [x, y], ⟨pa, pb, h0, h1, h2⟩ => exact ⟨pa, pb, b.seqT M h0, b.seqT M h1, b.seqT M h2⟩
  | [x, y, z], ⟨pa, pb, pc, h0, h1, h2, h3⟩ => exact ⟨pa, pb, pc, b.seqT M h0, b.seqT M h1, b.seqT M h2, b.seqT M h3⟩
theorem SolO.same {K : PySem.W.Frag} {H H' : Hp} {v : V} {o : Option (List Rat)} (h : SolO K H v o) (s : Same H H') : SolO K H' v o := by
  match o, h with
  | none, h => exact h
  | some c, ⟨p, h1, h2⟩ => exact ⟨p, h1, h2.same s⟩
section
variable {P : Program} {w : World} {K : PySem.W.Frag} {mg : Str → Option Value} {base : Heap}
def sp_law_sums_right (K : PySem.W.Frag) : Sp := fun vs H Q _ => ∃ (m cl qa sp : Addr) (n : Nat) (qn : Qn) (s : List Rat), vs = [.ref m, .ref qa, .ref sp] ∧ n ≤ 5000 ∧ MAt H m cl n ∧ SqT K H qa qn.vs ∧ SolT K H sp s ∧ Good qn 0 s ∧ ∀ H', But m H H' → MAt H' m cl (n + 6) → Q (.bl true) H'
abbrev s__law_sums_right : Stmt := topS 63
theorem sc__law_sums_right : FnScope ["m", "question", "first", "five_v", "last", "lap", "other", "point", "due"] ["m", "question", "first"] (defScope s__law_sums_right) := ⟨rfl, rfl, rfl, by decide +kernel, rfl, by decide +kernel, by decide +kernel⟩
theorem k_law_sums_right (T : Tx K mg) (D : Df K mg "_law_sums_right" s__law_sums_right ["m", "question", "first"]) (c_law_curve : Kl P w K mg base 1 "_law_curve" (sp_law_curve K)) (c_law_of : Kl P w K mg base 2 "_law_of" (sp_law_of K)) (c_law_sum : Kl P w K mg base 5 "_law_sum" (sp_law_sum K)) (c_law_told : Kl P w K mg base 5 "_law_told" (sp_law_told K)) (c_law_draw : Kl P w K mg base 1 "_law_draw" (sp_law_draw K)) (c_law_point : Kl P w K mg base 4 "_law_point" (sp_law_point K)) (c_law_solves : Kl P w K mg base 4 "_law_solves" (sp_law_solves K)) (c_sum_of : Kl P w K mg base 7 "sum_of" (sp_sum_of K)) : Kg P w K mg base 8 "_law_sums_right" (sp_law_sums_right K) := by
  have nd := sc__law_sums_right.nd
  refine Kg.by_body D sc__law_sums_right (fun vs H Q E h => ?_) (fun f cdv A outer s H vs Q E hgd hr h => ?_)
  · obtain ⟨_, _, _, _, _, _, _, rfl, _⟩ := h
    rfl
  · obtain ⟨m, cl, qa, sp, n, qn, s, rfl, hn, hM, hq, hs, hG, q⟩ := h
    have hu1 := hu_of hr
    refine ⟨_, (pss_cons (ps_par (i := 3) (j := 4) (by rfl) nd rfl rfl (by decide) rfl rfl (pa_cons (pe_k c_law_curve  hr (by decide) (by rfl) (pa_cons (pv 1) pa_nil)) (pa_cons (pv 2) pa_nil)) (by rfl))
      (pss_cons (ps_for PassesOwn.never rfl (pi_range1 (by rfl) T.range (pa_cons (pe_op op_add pe_int (pe_k c_law_draw  hr (by decide) (by rfl) (pa_cons (pv 0) (pa_cons pe_int pa_nil)))) pa_nil)) (pg_name (i := 5) nd rfl (by first | exact Or.inl rfl | exact Or.inr rfl)) (pss_cons (ps_set (i := 6) nd rfl (by first | exact Or.inl rfl | exact Or.inr rfl) (pe_k c_law_of  hr (by decide) (by rfl) (pa_cons (pv 0) (pa_cons (pe_lst (pa_cons (pv 2) (pa_cons (pv 4) pa_nil))) pa_nil))))
      (pss_cons (ps_set (i := 7) nd rfl (by first | exact Or.inl rfl | exact Or.inr rfl) (pe_k c_law_sum  hr (by decide) (by rfl) (pa_cons (pv 3) (pa_cons (pe_k c_law_point  hr (by decide) (by rfl) (pa_cons (pv 1) (pa_cons (pv 4) pa_nil))) (pa_cons (pe_k c_law_point  hr (by decide) (by rfl) (pa_cons (pv 1) (pa_cons (pv 6) pa_nil))) pa_nil)))))
      (pss_cons (ps_set (i := 8) nd rfl (by first | exact Or.inl rfl | exact Or.inr rfl) (pe_k c_law_told  hr (by decide) (by rfl) (pa_cons (pv 1) (pa_cons (pv 7) pa_nil))))
      (pss_cons (ps_if (pt_cmpR op_ne (pe_callB (call_reprD hgd hr.units) (by rfl) T.repr (by decide +kernel) (pa_cons (pe_k c_sum_of  hr (by decide) (by rfl) (pa_cons (pv 1) (pa_cons (pv 4) (pa_cons (pv 6) pa_nil)))) pa_nil)) (pe_callB (call_reprD hgd hr.units) (by rfl) T.repr (by decide +kernel) (pa_cons (pv 8) pa_nil)) (nomark _)) (pss_one (ps_ret pe_bl)) pss_nil)
      (pss_cons (ps_if (pt_cmpR op_isN (pv 8) pe_non (nomark _)) (pss_one (ps_ret (pe_or (pe_cmpR op_ne (pe_ix ix_tup (pv 1) pe_int (fun _ _ => rfl)) pe_str (nomark _)) (pe_or (pe_cmpR (op_eqD hr.units) (pv 7) (pe_tup pa_nil) (nomark _)) (pe_one (pe_cmpR op_eq (pe_ix ix_tup (pe_ix ix_tup (pv 7) pe_int (fun _ _ => rfl)) pe_int (fun _ _ => rfl)) pe_int (nomark _))))))) pss_nil)
      (pss_cons (ps_if (pt_not (pt_val (pe_k c_law_solves  hr (by decide) (by rfl) (pa_cons (pv 1) (pa_cons (pv 8) pa_nil))))) (pss_one (ps_ret pe_bl)) pss_nil)
      (pss_one (ps_if (pt_cmpR op_lt (pv 5) pe_int (nomark _)) (pss_one (ps_set (i := 4) nd rfl (by first | exact Or.inl rfl | exact Or.inr rfl) (pv 8))) pss_nil)))))))))
      (pss_one (ps_ret pe_bl)))), ?_⟩
    have pre0 := good_pre hG
    have hbd := pre0.bd
    refine ⟨_, rfl, qa, qn, rfl, hq, hbd, fun fv nfv => ?_⟩
    have s1 := Same.new (H := H) (p := fv) (o := .tup [.int 0, .int qn.e.a, .int 0, .int qn.e.b, .int qn.e.c]) nfv
    have gf : upd H fv (.tup [.int 0, .int qn.e.a, .int 0, .int qn.e.b, .int qn.e.c]) fv = some (.tup [.int 0, .int qn.e.a, .int 0, .int qn.e.b, .int qn.e.c]) := upd_same
    generalize upd H fv (.tup [.int 0, .int qn.e.a, .int 0, .int qn.e.b, .int qn.e.c]) = H1 at s1 gf ⊢
    refine ⟨_, rfl, _, _, rfl, ?_⟩
    first | refine sigN [some (.ref m), some (.ref qa), some (.ref sp), some (.ref fv), some (.ref sp), none, none, none, none] (by rfl) ?_ | refine sig [some (.ref m), some (.ref qa), some (.ref sp), some (.ref fv), some (.ref sp), none, none, none, none] (by rfl) ?_
    have M1 := hM.same s1
    have hq1 := Same.tup s1 hq
    have hs1 := hs.same s1
    have hf1 : FivT K H1 fv qn.e := tup_of gf
    clear gf
    refine ⟨_, rfl, m, cl, 4, n, rfl, by decide, by decide, by omega, M1, fun H2 d b2 m2 d0 d1 => ?_⟩
    have hq2 := b2.seqT M1 hq1
    have hs2 := sol_but b2 M1 hs1
    have hf2 : FivT K H2 fv qn.e := b2.seqT M1 hf1
    have B12 := (But.of s1 : But m H H1).trans b2
    clear hq1 hs1 hf1 b2 M1 s1 hq hs
    refine ⟨_, _, rfl, rfl, 1 + d, rfl, by omega, by omega, for_range (lo := 0) (n := (1 + d).toNat) (fun i σ H3 => But m H2 H3 ∧ MAt H3 m cl (n + 1 + i) ∧ ∃ (lp : Addr) (sl : List Rat) (v5 v6 v7 v8 : Option V), σ = [some (.ref m), some (.ref qa), some (.ref sp), some (.ref fv), some (.ref lp), v5, v6, v7, v8] ∧ SolT K H3 lp sl ∧ Good qn (min i 2) sl ∧ (i = 0 → lp = sp ∧ sl = s)) ⟨But.refl m H2, m2, sp, s, none, none, none, none, rfl, hs2, hG, fun _ => ⟨rfl, rfl⟩⟩ ?_ ?_⟩
    · rintro i σ H3 hi ⟨b3, m3, lp, sl, v5, v6, v7, v8, rfl, hl3, gl, h0⟩
      first | refine sigN [some (.ref m), some (.ref qa), some (.ref sp), some (.ref fv), some (.ref lp), some (.int (0 + (i : Int))), v6, v7, v8] (by rfl) ?_ | refine sig [some (.ref m), some (.ref qa), some (.ref sp), some (.ref fv), some (.ref lp), some (.int (0 + (i : Int))), v6, v7, v8] (by rfl) ?_
      have hi5 : i < 5 := by omega
      have hs3 := sol_but b3 m2 hs2
      have hq3 := b3.seqT m2 hq2
      have hf3 : FivT K H3 fv qn.e := b3.seqT m2 hf2
      refine ⟨_, rfl, _, rfl, _, rfl, (by show 2 ≤ sizeLine; decide), fun l nl => ?_⟩
      have s4 := Same.new (H := H3) (p := l) (o := .lst [.ref sp, .ref lp]) nl
      have gl4 : upd H3 l (.lst [.ref sp, .ref lp]) l = some (.lst [.ref sp, .ref lp]) := upd_same
      generalize upd H3 l (.lst [.ref sp, .ref lp]) = H4 at s4 gl4 ⊢
      have M4 := m3.same s4
      refine ⟨m, cl, l, [.ref sp, .ref lp], _, rfl, lst_of gl4, (by show 0 < 2; decide), (by show 2 ≤ 1000; decide), by omega, M4, fun H5 x b5 m5 hx => ?_⟩
      obtain ⟨op, so, rfl, ho4, go, h0o⟩ : ∃ op so, x = .ref op ∧ SolT K H4 op so ∧ Good qn (min i 2) so ∧ (i = 0 → sl = so) := by
        simp only [List.mem_cons, List.not_mem_nil, or_false] at hx
        rcases hx with rfl | rfl
        · exact ⟨sp, s, rfl, hs3.same s4, hG.up (Nat.zero_le _), fun z => (h0 z).2⟩
        · exact ⟨lp, sl, rfl, hl3.same s4, gl, fun _ => rfl⟩
      have ho5 := sol_but b5 M4 ho4
      have hl5 := sol_but b5 M4 (hl3.same s4)
      have hq5 := b5.seqT M4 (Same.tup s4 hq3)
      have hf5 : FivT K H5 fv qn.e := b5.seqT M4 (hf3.same s4)
      have B35 := b3.trans ((But.of s4).trans b5)
      clear hx ho4 b5 b3 hs3 hq3 hf3
      first | refine sigN [some (.ref m), some (.ref qa), some (.ref sp), some (.ref fv), some (.ref lp), some (.int (0 + (i : Int))), some (.ref op), v7, v8] (by rfl) ?_ | refine sig [some (.ref m), some (.ref qa), some (.ref sp), some (.ref fv), some (.ref lp), some (.int (0 + (i : Int))), some (.ref op), v7, v8] (by rfl) ?_
      have pl := good_pre gl
      have po := good_pre go
      have hle : hbq qn (min i 2) + hbq qn (min i 2) ≤ 400 := by
        have := hbq_le qn (min i 2)
        omega
      refine ⟨_, rfl, _, rfl, _, rfl, qa, lp, qn, sl, rfl, hq5, hbd, hl5, pl.cal, fun t1 H6 S1 s6 hp1 e1 => ?_⟩
      refine ⟨_, rfl, _, rfl, qa, op, qn, so, rfl, Same.tup s6 hq5, hbd, ho5.same s6, po.cal, fun t2 H7 S2 s7 hp2 e2 => ?_⟩
      subst e1
      subst e2
      refine ⟨fv, t1, t2, qn.e, _, _, _, _, rfl, hf5.same (s6.trans s7), pl.ebd, hp1.same s7, hp2, pl.on, po.on, pl.hb, po.hb, hle, fun t3 H8 s8 hp3 => ?_⟩
      first | refine sigN [some (.ref m), some (.ref qa), some (.ref sp), some (.ref fv), some (.ref lp), some (.int (0 + (i : Int))), some (.ref op), some (.ref t3), v8] (by rfl) ?_ | refine sig [some (.ref m), some (.ref qa), some (.ref sp), some (.ref fv), some (.ref lp), some (.int (0 + (i : Int))), some (.ref op), some (.ref t3), v8] (by rfl) ?_
      obtain ⟨R, eR⟩ : ∃ R, sum qn.e (pnt qn sl) (pnt qn so) = R := ⟨_, rfl⟩
      rw [eR] at hp3
      have tab : Tab qn R := by
        obtain ⟨o, ho⟩ := told_ex qn R
        exact (good_out gl go h0o eR ho).1
      have s58 := s6.trans (s7.trans s8)
      refine ⟨_, rfl, _, rfl, qa, t3, qn, R, rfl, Same.tup s58 hq5, hbd, hp3, tab, fun o v H9 ho s9 hv => ?_⟩
      first | refine sigN [some (.ref m), some (.ref qa), some (.ref sp), some (.ref fv), some (.ref lp), some (.int (0 + (i : Int))), some (.ref op), some (.ref t3), some v] (by rfl) ?_ | refine sig [some (.ref m), some (.ref qa), some (.ref sp), some (.ref fv), some (.ref lp), some (.int (0 + (i : Int))), some (.ref op), some (.ref t3), some v] (by rfl) ?_
      have s59 := s58.trans s9
      have nx := (good_out gl go h0o eR ho).2
      refine ⟨_, rfl, _, rfl, _, rfl, qa, lp, op, qn, sl, so, _, _, rfl, Same.tup s59 hq5, hbd, hl5.same s59, ho5.same s59, pl.cal, po.cal, pl.ebd, pl.on, po.on, pl.hb, po.hb, hle, by rw [eR]; exact tab, fun o2 v2 Ha ho2 sa hv2 => ?_⟩
      rw [eR] at ho2
      obtain rfl : o2 = o := ho2.uniq ho
      obtain ⟨k1, k2, k3⟩ := S_ok nx
      have hva := hv.same sa
      refine ⟨v2, dS o2, rfl, dp_S hv2, k1, k2, k3, ?_⟩
      refine ⟨_, rfl, v, dS o2, rfl, dp_S hva, k1, k2, k3, rfl, _, rfl, ?_⟩
      generalize (dS o2).shown = zz
      refine iteNS rfl ?_
      have s5a := s59.trans sa
      have m5a := m5.same s5a
      have B3a := B35.trans (But.of s5a)
      cases o2 with
      | none =>
        rw [show v = .non from hva]
        refine ⟨_, rfl, rfl, _, rfl, iteT ?_⟩
        have hqa := Same.tup s5a hq5
        have hp3a := hp3.same (s9.trans sa)
        have qq := q Ha (B12.trans B3a) (m5a.up (by omega))
        cases qn with
        | tri n =>
          replace hqa : SqT K Ha qa [.str "triangle", .int n] := hqa
          refine ⟨_, rfl, qa, _, 0, _, rfl, rfl, hqa, rfl, rfl, ?_⟩
          rw [show (!decide (V.str "triangle" = V.str (Str.ofString "concord"))) = true by decide +kernel]
          refine ⟨_, rfl, iteY rfl ?_⟩
          exact qq
        | con m' n' =>
          replace hqa : SqT K Ha qa [.str "concord", .int m', .int n'] := hqa
          refine ⟨_, rfl, qa, _, 0, _, rfl, rfl, hqa, rfl, rfl, ?_⟩
          rw [show (!decide (V.str "concord" = V.str (Str.ofString "concord"))) = false by decide +kernel]
          refine ⟨_, rfl, iteN Bool.false_ne_true ?_⟩
          refine ⟨_, rfl, (by show 0 ≤ sizeLine; decide), fun z nz => ?_⟩
          have sc := Same.new (H := Ha) (p := z) (o := .tup []) nz
          have gz : upd Ha z (.tup []) z = some (.tup []) := upd_same
          generalize upd Ha z (.tup []) = Hc at sc gz ⊢
          have qq2 := q Hc (B12.trans (B3a.trans (But.of sc))) ((m5a.same sc).up (by omega))
          cases R with
          | none =>
            refine ⟨dP none, .tuple [], dp_pt (hp3a.same sc), dp0 (tup_of gz), sh_P none, rfl, ?_⟩
            refine ⟨_, rfl, iteY rfl ?_⟩
            exact qq2
          | some S =>
            obtain ⟨x, y⟩ := S
            have x0 : x = 0 := nx m' n' rfl x y rfl
            obtain ⟨a, b, h1, h2, h3⟩ := hp3a
            refine ⟨dP (some (x, y)), .tuple [], dp_pt ⟨a, b, Same.tup sc h1, Same.tup sc h2, Same.tup sc h3⟩, dp0 (tup_of gz), sh_P (some (x, y)), rfl, ?_⟩
            rw [eqv_P0, show decide (some (x, y) = none) = false from rfl]
            refine ⟨_, rfl, iteN Bool.false_ne_true ?_⟩
            refine ⟨_, rfl, t3, _, 0, .ref a, rfl, rfl, Same.tup sc h1, rfl, a, _, 0, .int x.num, rfl, rfl, Same.tup sc h2, rfl, rfl, ?_⟩
            rw [x0]
            exact qq2
        | cub n =>
          replace hqa : SqT K Ha qa [.str "cubes", .int n] := hqa
          refine ⟨_, rfl, qa, _, 0, _, rfl, rfl, hqa, rfl, rfl, ?_⟩
          rw [show (!decide (V.str "cubes" = V.str (Str.ofString "concord"))) = true by decide +kernel]
          refine ⟨_, rfl, iteY rfl ?_⟩
          exact qq
      | some s' =>
        obtain ⟨pd, rfl, hd⟩ := hva
        refine ⟨_, rfl, rfl, _, rfl, iteF ?_⟩
        have hqa := Same.tup s5a hq5
        refine ⟨_, rfl, _, rfl, qa, pd, qn, s', rfl, hqa, hbd, hd, nx.1, fun Hb sb => ?_⟩
        refine ⟨_, rfl, iteN (by decide) ?_⟩
        have mb := m5a.same sb
        have B3b := B3a.trans (But.of sb)
        refine ⟨_, rfl, _, _, rfl, rfl, _, rfl, ?_⟩
        by_cases hl : 0 + (i : Int) < 2
        · refine iteY (decide_eq_true hl) ?_
          refine ⟨_, rfl, ?_⟩
          exact ⟨B3b, mb.up (by omega), pd, s', _, _, _, _, rfl, SolT.same hd sb, nx.2 (by omega), fun z => by omega⟩
        · refine iteN (by simpa using hl) ?_
          have e1 : min (i + 1) 2 = 2 := by omega
          have e2 : min i 2 = 2 := by omega
          rw [e2] at gl
          exact ⟨B3b, mb.up (by omega), lp, sl, _, _, _, _, rfl, hl5.same (s5a.trans sb), by rw [e1]; exact gl, fun z => by omega⟩
    · rintro σ H3 ⟨b3, m3, lp, sl, v5, v6, v7, v8, rfl, hl3, gl, h0⟩
      exact q _ (B12.trans b3) (m3.up (by omega))
end
end K55
set_option Elab.async false
set_option linter.all false
set_option maxRecDepth 100000
set_option maxHeartbeats 4000000
namespace K55
open PySem PySem.Spec PyProof.Rows L2 Gd QM EcM EcP
theorem dt_good {n : Int} {c : C3} (h : Dt n c) : Good (.tri n) 0 (l3 c) := by
  have h0 := h.t.n0
  have h1 := h.n1
  refine ⟨c, rfl, ?_, h.t, h.b1.up (by decide), h.b2.up (by decide), h.b3.up (by decide), h.x⟩
  unfold Gd.B
  omega
theorem dc_good {m n : Int} {c : C3} (h : Dc m n c) : Good (.con m n) 0 (l3 c) :=
  ⟨c, rfl, h.bM, h.bN, h.p, ⟨h.t0, h.eu, h.ev⟩, h.b1.up (by decide), h.b2.up (by decide), h.b3.up (by decide), (h.b1.mul h.b1).up (by decide), fun _ => h.w⟩
theorem f1 : fq 1 = [.int 1, .int 1] := by decide +kernel
theorem fm1 : fq (-1) = [(fun i : Int => V.int (-i)) 1, .int 1] := by decide +kernel
theorem f0 : fq 0 = [.int 0, .int 1] := by decide +kernel
/-- an entry of the list of pairs -/
def Ent (K : PySem.W.Frag) (H : Hp) (x : V) : Prop := ∃ (pr sp : Addr) (n : Int) (s : List Rat), x = .ref pr ∧ SqT K H pr [.int n, .ref sp] ∧ SolT K H sp s ∧ Gb n s
theorem Ent.same {K : PySem.W.Frag} {H H' : Hp} {x : V} (h : Ent K H x) (s : Same H H') : Ent K H' x := by
  obtain ⟨pr, sp, n, t, h1, h2, h3, h4⟩ := h
  exact ⟨pr, sp, n, t, h1, Same.tup s h2, h3.same s, h4⟩
section
variable {P : Program} {w : World} {K : PySem.W.Frag} {mg : Str → Option Value} {base : Heap}
def sp_law (K : PySem.W.Frag) : Sp := fun vs H Q _ => ∃ (a : Addr) (ns : List Int), vs = [.ref a] ∧ SqL K H a (ns.map V.int) ∧ ns.length ≤ 63 ∧ ∀ H', Q (.bl true) H'
abbrev s_law : Stmt := topS 64
theorem sc_law : FnScope ["script", "turn", "m", "n", "triangle", "one", "two", "concord", "pair"] ["script"] (defScope s_law) := ⟨rfl, rfl, rfl, by decide +kernel, rfl, by decide +kernel, by decide +kernel⟩
theorem k_law {fl : Addr} {fdl : FuncData} (T : Tx K mg) (Fl : Fun K "law" "law" s_law fl fdl) (c_law_begun : Kl P w K mg base 1 "_law_begun" (sp_law_begun K)) (c_law_triangle : Kl P w K mg base 3 "_law_triangle" (sp_law_triangle K)) (c_law_concord : Kl P w K mg base 2 "_law_concord" (sp_law_concord K)) (c_law_of : Kl P w K mg base 2 "_law_of" (sp_law_of K)) (c_sum_of : Kl P w K mg base 7 "sum_of" (sp_sum_of K)) (c_law_sums_right : Kg P w K mg base 8 "_law_sums_right" (sp_law_sums_right K)) : FnG P w K mg base 9 fl fdl ["script"] (sp_law K) := by
  have nd := sc_law.nd
  refine FnG.by_body Fl sc_law (fun vs H Q E h => ?_) (fun cdv A outer s H vs Q E hgd hr h => ?_)
  · obtain ⟨_, _, rfl, _⟩ := h
    rfl
  · obtain ⟨a, ns, rfl, hx, hl, q⟩ := h
    have hu1 := hu_of hr
    refine ⟨_, (pss_cons (ps_for PassesOwn.never rfl (pi_range1 (by rfl) T.range (pa_cons (pe_op op_add pe_int (pe_callTy call_int1 (by rfl) T.int (by decide +kernel) (pa_cons (pe_cmpR op_gt (pe_callB call_len_seq (by rfl) T.len (by decide +kernel) (pa_cons (pv 0) pa_nil)) pe_int (nomark _)) pa_nil))) pa_nil)) (pg_name (i := 1) nd rfl (by first | exact Or.inl rfl | exact Or.inr rfl)) (pss_cons (ps_set (i := 2) nd rfl (by first | exact Or.inl rfl | exact Or.inr rfl) (pe_k c_law_begun  hr (by decide) (by rfl) (pa_cons (pv 0) (pa_cons (pv 1) pa_nil))))
      (pss_cons (ps_asg (pe_k c_law_triangle  hr (by decide) (by rfl) (pa_cons (pv 2) pa_nil)) (pg_tup rfl (pgs_cons (pg_name (i := 3) nd rfl (by first | exact Or.inl rfl | exact Or.inr rfl)) (pgs_cons (pg_name (i := 4) nd rfl (by first | exact Or.inl rfl | exact Or.inr rfl)) pgs_nil))))
      (pss_cons (ps_asg (pe_k c_law_concord  hr (by decide) (by rfl) (pa_cons (pv 2) pa_nil)) (pg_tup rfl (pgs_cons (pg_tup rfl (pgs_cons (pg_name (i := 5) nd rfl (by first | exact Or.inl rfl | exact Or.inr rfl)) (pgs_cons (pg_name (i := 6) nd rfl (by first | exact Or.inl rfl | exact Or.inr rfl)) pgs_nil))) (pgs_cons (pg_name (i := 7) nd rfl (by first | exact Or.inl rfl | exact Or.inr rfl)) pgs_nil))))
      (pss_cons (ps_if (PW.pt (pw_or (pt_not (pt_val (pe_g c_law_sums_right hgd hr (by decide) (by rfl) (pa_cons (pv 2) (pa_cons (pe_tup (pa_cons pe_str (pa_cons (pv 3) pa_nil))) (pa_cons (pv 4) pa_nil)))))) (pw_or1 (pt_not (pt_val (pe_g c_law_sums_right hgd hr (by decide) (by rfl) (pa_cons (pv 2) (pa_cons (pe_tup (pa_cons pe_str (pa_cons (pv 5) (pa_cons (pv 6) pa_nil)))) (pa_cons (pv 7) pa_nil))))))))) (pss_one (ps_ret pe_bl)) pss_nil)
      (pss_cons (ps_set (i := 8) nd rfl (by first | exact Or.inl rfl | exact Or.inr rfl) (pe_k c_law_of  hr (by decide) (by rfl) (pa_cons (pv 2) (pa_cons (pe_lst (pa_cons (pe_tup (pa_cons pe_int (pa_cons (pe_tup (pa_cons (pe_tup (pa_cons pe_int (pa_cons pe_int pa_nil))) (pa_cons (pe_tup (pa_cons pe_int (pa_cons pe_int pa_nil))) pa_nil))) pa_nil))) (pa_cons (pe_tup (pa_cons pe_int (pa_cons (pe_tup (pa_cons (pe_tup (pa_cons pe_int (pa_cons pe_int pa_nil))) (pa_cons (pe_tup (pa_cons pe_int (pa_cons pe_int pa_nil))) pa_nil))) pa_nil))) (pa_cons (pe_tup (pa_cons pe_int (pa_cons (pe_tup (pa_cons (pe_tup (pa_cons pe_int (pa_cons pe_int pa_nil))) (pa_cons (pe_tup (pa_cons pe_int (pa_cons pe_int pa_nil))) pa_nil))) pa_nil))) (pa_cons (pe_tup (pa_cons (pe_un un_neg pe_int) (pa_cons (pe_tup (pa_cons (pe_tup (pa_cons (pe_un un_neg pe_int) (pa_cons pe_int pa_nil))) (pa_cons (pe_tup (pa_cons pe_int (pa_cons pe_int pa_nil))) pa_nil))) pa_nil))) pa_nil))))) pa_nil))))
      (pss_one (ps_if (pt_not (pt_val (pe_g c_law_sums_right hgd hr (by decide) (by rfl) (pa_cons (pv 2) (pa_cons (pe_tup (pa_cons pe_str (pa_cons (pe_ix ix_tup (pv 8) pe_int (fun _ _ => rfl)) pa_nil))) (pa_cons (pe_ix ix_tup (pv 8) pe_int (fun _ _ => rfl)) pa_nil)))))) (pss_one (ps_ret pe_bl)) pss_nil))))))))
      (pss_one (ps_ret (pe_cmpR op_isN (pe_k c_sum_of  hr (by decide) (by rfl) (pa_cons (pe_tup (pa_cons pe_str (pa_cons pe_int pa_nil))) (pa_cons (pe_tup (pa_cons (pe_tup (pa_cons pe_int (pa_cons pe_int pa_nil))) (pa_cons (pe_tup (pa_cons pe_int (pa_cons pe_int pa_nil))) pa_nil))) (pa_cons (pe_tup (pa_cons (pe_tup (pa_cons pe_int (pa_cons pe_int pa_nil))) (pa_cons (pe_tup (pa_cons pe_int (pa_cons pe_int pa_nil))) pa_nil))) pa_nil)))) pe_non (nomark _))))), ?_⟩
    obtain ⟨j, hj, j0, j1⟩ : ∃ j : Int, (1 : Int) + (if decide ((2 : Int) < ((ns.map V.int).length : Int)) = true then 1 else 0) = j ∧ 0 ≤ j ∧ j ≤ 5 := ⟨_, rfl, by split <;> omega, by split <;> omega⟩
    refine ⟨_, rfl, a, _, rfl, .inl hx, _, _, rfl, rfl, .inr ⟨_, rfl, _, _, rfl, rfl, j, ?_, by omega, by omega, ?_⟩⟩
    · rw [← hj]
    refine for_range (lo := 0) (n := j.toNat) (fun i σ H2 => Same H H2 ∧ ∃ v1 v2 v3 v4 v5 v6 v7 v8 : Option V, σ = [some (.ref a), v1, v2, v3, v4, v5, v6, v7, v8]) ⟨Same.refl _, none, none, none, none, none, none, none, none, rfl⟩ ?_ ?_
    · rintro i σ H2 hi ⟨s2, v1, v2, v3, v4, v5, v6, v7, v8, rfl⟩
      refine ⟨_, rfl, _, rfl, a, _, ns, rfl, s2.seq hx, hl, by omega, by omega, fun H3 m cl s3 nm ncl hM => ?_⟩
      first | refine sigN [some (.ref a), some (.int (0 + (i : Int))), some (.ref m), v3, v4, v5, v6, v7, v8] (by rfl) ?_ | refine sig [some (.ref a), some (.int (0 + (i : Int))), some (.ref m), v3, v4, v5, v6, v7, v8] (by rfl) ?_
      refine ⟨_, rfl, m, cl, 0, rfl, by decide, hM, fun H4 tt tc N c b4 m4 ht htc hD => ?_⟩
      refine ⟨tt, _, rfl, ht, rfl, _, _, rfl, _, _, rfl, rfl, ?_⟩
      first | refine sigN [some (.ref a), some (.int (0 + (i : Int))), some (.ref m), some (.int (N)), some (.ref tc), v5, v6, v7, v8] (by rfl) ?_ | refine sig [some (.ref a), some (.int (0 + (i : Int))), some (.ref m), some (.int (N)), some (.ref tc), v5, v6, v7, v8] (by rfl) ?_
      refine ⟨_, rfl, m, cl, _, rfl, by decide, m4, fun H5 t5 tq td M L d b5 m5 g1 g2 hd hD2 => ?_⟩
      refine ⟨t5, _, rfl, g1, rfl, _, _, rfl, tq, _, rfl, g2, rfl, _, _, rfl, _, _, rfl, rfl, _, _, rfl, rfl, ?_⟩
      first | refine sigN [some (.ref a), some (.int (0 + (i : Int))), some (.ref m), some (.int (N)), some (.ref tc), some (.int (M)), some (.int (L)), some (.ref td), v8] (by rfl) ?_ | refine sig [some (.ref a), some (.int (0 + (i : Int))), some (.ref m), some (.int (N)), some (.ref tc), some (.int (M)), some (.int (L)), some (.ref td), v8] (by rfl) ?_
      refine ⟨_, rfl, _, rfl, (by show 2 ≤ sizeLine; decide), fun qa nqa => ?_⟩
      have s6 := Same.new (H := H5) (p := qa) (o := .tup [.str "triangle", .int N]) nqa
      have gq : upd H5 qa (.tup [.str "triangle", .int N]) qa = some (.tup [.str "triangle", .int N]) := upd_same
      generalize upd H5 qa (.tup [.str "triangle", .int N]) = H6 at s6 gq ⊢
      have m6 := m5.same s6
      refine ⟨_, rfl, m, cl, qa, tc, _, .tri N, l3 c, rfl, by omega, m6, tup_of gq, sol_but (b5.trans (But.of s6)) m4 (show SolT K H4 tc (l3 c) from htc), dt_good hD, fun H7 b7 m7 => ?_⟩
      refine ⟨_, rfl, iteF ?_⟩
      refine ⟨_, rfl, _, rfl, _, rfl, (by show 3 ≤ sizeLine; decide), fun qb nqb => ?_⟩
      have s8 := Same.new (H := H7) (p := qb) (o := .tup [.str "concord", .int M, .int L]) nqb
      have gq8 : upd H7 qb (.tup [.str "concord", .int M, .int L]) qb = some (.tup [.str "concord", .int M, .int L]) := upd_same
      generalize upd H7 qb (.tup [.str "concord", .int M, .int L]) = H8 at s8 gq8 ⊢
      have m8 := m7.same s8
      have hd8 := sol_but (b7.trans (But.of s8)) m6 ((show SolT K H5 td (l3 d) from hd).same s6)
      refine ⟨_, rfl, m, cl, qb, td, _, .con M L, l3 d, rfl, by omega, m8, tup_of gq8, hd8, dc_good hD2, fun H9 b9 m9 => ?_⟩
      refine ⟨_, rfl, iteF ?_⟩
      have mm := m9
      have BB : But m H3 H9 := b4.trans (b5.trans ((But.of s6).trans (b7.trans ((But.of s8).trans b9))))
      clear hd8 gq gq8 hd htc g1 g2 ht b4 b5 s6 b7 s8 b9 m4 m5 m6 m7 m8 hD hD2
      refine ⟨_, rfl, (by show 2 ≤ sizeLine; decide), fun p0a np0a => ?_⟩
      have j0 := Same.new (H := H9) (p := p0a) (o := .tup [.int 1, .int 1]) np0a
      have gp0a : upd H9 p0a (.tup [.int 1, .int 1]) p0a = some (.tup [.int 1, .int 1]) := upd_same
      generalize upd H9 p0a (.tup [.int 1, .int 1]) = I0 at j0 gp0a ⊢
      refine ⟨(by show 2 ≤ sizeLine; decide), fun p0b np0b => ?_⟩
      have j1 := Same.new (H := I0) (p := p0b) (o := .tup [.int 0, .int 1]) np0b
      have gp0b : upd I0 p0b (.tup [.int 0, .int 1]) p0b = some (.tup [.int 0, .int 1]) := upd_same
      generalize upd I0 p0b (.tup [.int 0, .int 1]) = I1 at j1 gp0b ⊢
      refine ⟨(by show 2 ≤ sizeLine; decide), fun p0s np0s => ?_⟩
      have j2 := Same.new (H := I1) (p := p0s) (o := .tup [.ref p0a, .ref p0b]) np0s
      have gp0s : upd I1 p0s (.tup [.ref p0a, .ref p0b]) p0s = some (.tup [.ref p0a, .ref p0b]) := upd_same
      generalize upd I1 p0s (.tup [.ref p0a, .ref p0b]) = I2 at j2 gp0s ⊢
      refine ⟨(by show 2 ≤ sizeLine; decide), fun p0e np0e => ?_⟩
      have j3 := Same.new (H := I2) (p := p0e) (o := .tup [.int 1, .ref p0s]) np0e
      have gp0e : upd I2 p0e (.tup [.int 1, .ref p0s]) p0e = some (.tup [.int 1, .ref p0s]) := upd_same
      generalize upd I2 p0e (.tup [.int 1, .ref p0s]) = I3 at j3 gp0e ⊢
      rw [← f1] at gp0a
      rw [← f0] at gp0b
      have hE0 : Ent K I3 (.ref p0e) := ⟨p0e, p0s, 1, [1, 0], rfl, tup_of gp0e, ⟨p0a, p0b, tup_of ((j3) _ _ gp0s), tup_of ((j1.trans (j2.trans (j3))) _ _ gp0a), tup_of ((j2.trans (j3)) _ _ gp0b)⟩, .inl ⟨rfl, .inl rfl⟩⟩
      clear gp0a gp0b gp0s gp0e
      refine ⟨(by show 2 ≤ sizeLine; decide), fun p1a np1a => ?_⟩
      have j4 := Same.new (H := I3) (p := p1a) (o := .tup [.int 0, .int 1]) np1a
      have gp1a : upd I3 p1a (.tup [.int 0, .int 1]) p1a = some (.tup [.int 0, .int 1]) := upd_same
      generalize upd I3 p1a (.tup [.int 0, .int 1]) = I4 at j4 gp1a ⊢
      refine ⟨(by show 2 ≤ sizeLine; decide), fun p1b np1b => ?_⟩
      have j5 := Same.new (H := I4) (p := p1b) (o := .tup [.int 1, .int 1]) np1b
      have gp1b : upd I4 p1b (.tup [.int 1, .int 1]) p1b = some (.tup [.int 1, .int 1]) := upd_same
      generalize upd I4 p1b (.tup [.int 1, .int 1]) = I5 at j5 gp1b ⊢
      refine ⟨(by show 2 ≤ sizeLine; decide), fun p1s np1s => ?_⟩
      have j6 := Same.new (H := I5) (p := p1s) (o := .tup [.ref p1a, .ref p1b]) np1s
      have gp1s : upd I5 p1s (.tup [.ref p1a, .ref p1b]) p1s = some (.tup [.ref p1a, .ref p1b]) := upd_same
      generalize upd I5 p1s (.tup [.ref p1a, .ref p1b]) = I6 at j6 gp1s ⊢
      refine ⟨(by show 2 ≤ sizeLine; decide), fun p1e np1e => ?_⟩
      have j7 := Same.new (H := I6) (p := p1e) (o := .tup [.int 1, .ref p1s]) np1e
      have gp1e : upd I6 p1e (.tup [.int 1, .ref p1s]) p1e = some (.tup [.int 1, .ref p1s]) := upd_same
      generalize upd I6 p1e (.tup [.int 1, .ref p1s]) = I7 at j7 gp1e ⊢
      rw [← f0] at gp1a
      rw [← f1] at gp1b
      have hE1 : Ent K I7 (.ref p1e) := ⟨p1e, p1s, 1, [0, 1], rfl, tup_of gp1e, ⟨p1a, p1b, tup_of ((j7) _ _ gp1s), tup_of ((j5.trans (j6.trans (j7))) _ _ gp1a), tup_of ((j6.trans (j7)) _ _ gp1b)⟩, .inl ⟨rfl, .inr rfl⟩⟩
      clear gp1a gp1b gp1s gp1e
      refine ⟨(by show 2 ≤ sizeLine; decide), fun p2a np2a => ?_⟩
      have j8 := Same.new (H := I7) (p := p2a) (o := .tup [.int 1, .int 1]) np2a
      have gp2a : upd I7 p2a (.tup [.int 1, .int 1]) p2a = some (.tup [.int 1, .int 1]) := upd_same
      generalize upd I7 p2a (.tup [.int 1, .int 1]) = I8 at j8 gp2a ⊢
      refine ⟨(by show 2 ≤ sizeLine; decide), fun p2b np2b => ?_⟩
      have j9 := Same.new (H := I8) (p := p2b) (o := .tup [.int 1, .int 1]) np2b
      have gp2b : upd I8 p2b (.tup [.int 1, .int 1]) p2b = some (.tup [.int 1, .int 1]) := upd_same
      generalize upd I8 p2b (.tup [.int 1, .int 1]) = I9 at j9 gp2b ⊢
      refine ⟨(by show 2 ≤ sizeLine; decide), fun p2s np2s => ?_⟩
      have j10 := Same.new (H := I9) (p := p2s) (o := .tup [.ref p2a, .ref p2b]) np2s
      have gp2s : upd I9 p2s (.tup [.ref p2a, .ref p2b]) p2s = some (.tup [.ref p2a, .ref p2b]) := upd_same
      generalize upd I9 p2s (.tup [.ref p2a, .ref p2b]) = I10 at j10 gp2s ⊢
      refine ⟨(by show 2 ≤ sizeLine; decide), fun p2e np2e => ?_⟩
      have j11 := Same.new (H := I10) (p := p2e) (o := .tup [.int 2, .ref p2s]) np2e
      have gp2e : upd I10 p2e (.tup [.int 2, .ref p2s]) p2e = some (.tup [.int 2, .ref p2s]) := upd_same
      generalize upd I10 p2e (.tup [.int 2, .ref p2s]) = I11 at j11 gp2e ⊢
      rw [← f1] at gp2a
      rw [← f1] at gp2b
      have hE2 : Ent K I11 (.ref p2e) := ⟨p2e, p2s, 2, [1, 1], rfl, tup_of gp2e, ⟨p2a, p2b, tup_of ((j11) _ _ gp2s), tup_of ((j9.trans (j10.trans (j11))) _ _ gp2a), tup_of ((j10.trans (j11)) _ _ gp2b)⟩, .inr (.inl ⟨rfl, rfl⟩)⟩
      clear gp2a gp2b gp2s gp2e
      refine ⟨_, rfl, _, rfl, (by show 2 ≤ sizeLine; decide), fun p3a np3a => ?_⟩
      have j12 := Same.new (H := I11) (p := p3a) (o := .tup [(fun i => V.int (-i)) 1, .int 1]) np3a
      have gp3a : upd I11 p3a (.tup [(fun i => V.int (-i)) 1, .int 1]) p3a = some (.tup [(fun i => V.int (-i)) 1, .int 1]) := upd_same
      generalize upd I11 p3a (.tup [(fun i => V.int (-i)) 1, .int 1]) = I12 at j12 gp3a ⊢
      refine ⟨(by show 2 ≤ sizeLine; decide), fun p3b np3b => ?_⟩
      have j13 := Same.new (H := I12) (p := p3b) (o := .tup [.int 0, .int 1]) np3b
      have gp3b : upd I12 p3b (.tup [.int 0, .int 1]) p3b = some (.tup [.int 0, .int 1]) := upd_same
      generalize upd I12 p3b (.tup [.int 0, .int 1]) = I13 at j13 gp3b ⊢
      refine ⟨(by show 2 ≤ sizeLine; decide), fun p3s np3s => ?_⟩
      have j14 := Same.new (H := I13) (p := p3s) (o := .tup [.ref p3a, .ref p3b]) np3s
      have gp3s : upd I13 p3s (.tup [.ref p3a, .ref p3b]) p3s = some (.tup [.ref p3a, .ref p3b]) := upd_same
      generalize upd I13 p3s (.tup [.ref p3a, .ref p3b]) = I14 at j14 gp3s ⊢
      refine ⟨(by show 2 ≤ sizeLine; decide), fun p3e np3e => ?_⟩
      have j15 := Same.new (H := I14) (p := p3e) (o := .tup [(fun i => V.int (-i)) 1, .ref p3s]) np3e
      have gp3e : upd I14 p3e (.tup [(fun i => V.int (-i)) 1, .ref p3s]) p3e = some (.tup [(fun i => V.int (-i)) 1, .ref p3s]) := upd_same
      generalize upd I14 p3e (.tup [(fun i => V.int (-i)) 1, .ref p3s]) = I15 at j15 gp3e ⊢
      rw [← fm1] at gp3a
      rw [← f0] at gp3b
      have hE3 : Ent K I15 (.ref p3e) := ⟨p3e, p3s, -1, [-1, 0], rfl, tup_of gp3e, ⟨p3a, p3b, tup_of ((j15) _ _ gp3s), tup_of ((j13.trans (j14.trans (j15))) _ _ gp3a), tup_of ((j14.trans (j15)) _ _ gp3b)⟩, .inr (.inr ⟨rfl, .inl rfl⟩)⟩
      clear gp3a gp3b gp3s gp3e
      refine ⟨(by show 4 ≤ sizeLine; decide), fun l nl => ?_⟩
      have j16 := Same.new (H := I15) (p := l) (o := .lst [.ref p0e, .ref p1e, .ref p2e, .ref p3e]) nl
      have gl : upd I15 l (.lst [.ref p0e, .ref p1e, .ref p2e, .ref p3e]) l = some (.lst [.ref p0e, .ref p1e, .ref p2e, .ref p3e]) := upd_same
      generalize upd I15 l (.lst [.ref p0e, .ref p1e, .ref p2e, .ref p3e]) = I16 at j16 gl ⊢
      have SS : Same H9 I16 := j0.trans (j1.trans (j2.trans (j3.trans (j4.trans (j5.trans (j6.trans (j7.trans (j8.trans (j9.trans (j10.trans (j11.trans (j12.trans (j13.trans (j14.trans (j15.trans (j16))))))))))))))))
      have hE0' := hE0.same (j4.trans (j5.trans (j6.trans (j7.trans (j8.trans (j9.trans (j10.trans (j11.trans (j12.trans (j13.trans (j14.trans (j15.trans (j16)))))))))))))
      have hE1' := hE1.same (j8.trans (j9.trans (j10.trans (j11.trans (j12.trans (j13.trans (j14.trans (j15.trans (j16)))))))))
      have hE2' := hE2.same (j12.trans (j13.trans (j14.trans (j15.trans (j16)))))
      have hE3' := hE3.same (j16)
      clear hE0 hE1 hE2 hE3 j0 j1 j2 j3 j4 j5 j6 j7 j8 j9 j10 j11 j12 j13 j14 j15 j16
      have mI := mm.same SS
      refine ⟨m, cl, l, _, _, rfl, lst_of gl, (by show 0 < 4; decide), (by show 4 ≤ 1000; decide), by omega, mI, fun J x bJ mJ hx => ?_⟩
      obtain ⟨pr, sp, nn, s', rfl, k1, k2, k3⟩ : Ent K I16 x := by
        simp only [List.mem_cons, List.not_mem_nil, or_false] at hx
        rcases hx with rfl | rfl | rfl | rfl <;> assumption
      have k1J := bJ.seqT mI k1
      have k2J := sol_but bJ mI k2
      first | refine sigN [some (.ref a), some (.int (0 + (i : Int))), some (.ref m), some (.int (N)), some (.ref tc), some (.int (M)), some (.int (L)), some (.ref td), some (.ref pr)] (by rfl) ?_ | refine sig [some (.ref a), some (.int (0 + (i : Int))), some (.ref m), some (.int (N)), some (.ref tc), some (.int (M)), some (.int (L)), some (.ref td), some (.ref pr)] (by rfl) ?_
      have BJ : But m H3 J := BB.trans ((But.of SS).trans bJ)
      refine ⟨_, rfl, _, rfl, pr, _, 0, .int nn, rfl, rfl, k1J, rfl, (by show 2 ≤ sizeLine; decide), fun qc nqc => ?_⟩
      have t1 := Same.new (H := J) (p := qc) (o := .tup [.str "cubes", .int nn]) nqc
      have gqc : upd J qc (.tup [.str "cubes", .int nn]) qc = some (.tup [.str "cubes", .int nn]) := upd_same
      generalize upd J qc (.tup [.str "cubes", .int nn]) = J1 at t1 gqc ⊢
      have mJ1 := mJ.same t1
      refine ⟨_, rfl, pr, _, 1, .ref sp, rfl, rfl, Same.tup t1 k1J, rfl, ?_⟩
      refine ⟨m, cl, qc, sp, _, .cub nn, s', rfl, by omega, mJ1, tup_of gqc, k2J.same t1, k3, fun J2 b2 m2 => ?_⟩
      refine ⟨_, rfl, iteF ?_⟩
      exact ⟨s2.trans (But.same s3 (BJ.trans ((But.of t1).trans b2)) nm), _, _, _, _, _, _, _, _, rfl⟩
    · rintro σ H2 ⟨s2, v1, v2, v3, v4, v5, v6, v7, v8, rfl⟩
      refine ⟨(by show 2 ≤ sizeLine; decide), fun qc nqc => ?_⟩
      have i1 := Same.new (H := H2) (p := qc) (o := .tup [.str "cubes", .int 1]) nqc
      have gq : upd H2 qc (.tup [.str "cubes", .int 1]) qc = some (.tup [.str "cubes", .int 1]) := upd_same
      generalize upd H2 qc (.tup [.str "cubes", .int 1]) = I1 at i1 gq ⊢
      refine ⟨(by show 2 ≤ sizeLine; decide), fun a1 na1 => ?_⟩
      have i2 := Same.new (H := I1) (p := a1) (o := .tup [.int 1, .int 1]) na1
      have ga : upd I1 a1 (.tup [.int 1, .int 1]) a1 = some (.tup [.int 1, .int 1]) := upd_same
      generalize upd I1 a1 (.tup [.int 1, .int 1]) = I2 at i2 ga ⊢
      refine ⟨(by show 2 ≤ sizeLine; decide), fun a2 na2 => ?_⟩
      have i3 := Same.new (H := I2) (p := a2) (o := .tup [.int 0, .int 1]) na2
      have gb : upd I2 a2 (.tup [.int 0, .int 1]) a2 = some (.tup [.int 0, .int 1]) := upd_same
      generalize upd I2 a2 (.tup [.int 0, .int 1]) = I3 at i3 gb ⊢
      refine ⟨(by show 2 ≤ sizeLine; decide), fun sp nsp => ?_⟩
      have i4 := Same.new (H := I3) (p := sp) (o := .tup [.ref a1, .ref a2]) nsp
      have gs : upd I3 sp (.tup [.ref a1, .ref a2]) sp = some (.tup [.ref a1, .ref a2]) := upd_same
      generalize upd I3 sp (.tup [.ref a1, .ref a2]) = I4 at i4 gs ⊢
      refine ⟨(by show 2 ≤ sizeLine; decide), fun b1 nb1 => ?_⟩
      have i5 := Same.new (H := I4) (p := b1) (o := .tup [.int 0, .int 1]) nb1
      have gc : upd I4 b1 (.tup [.int 0, .int 1]) b1 = some (.tup [.int 0, .int 1]) := upd_same
      generalize upd I4 b1 (.tup [.int 0, .int 1]) = I5 at i5 gc ⊢
      refine ⟨(by show 2 ≤ sizeLine; decide), fun b2 nb2 => ?_⟩
      have i6 := Same.new (H := I5) (p := b2) (o := .tup [.int 1, .int 1]) nb2
      have gd : upd I5 b2 (.tup [.int 1, .int 1]) b2 = some (.tup [.int 1, .int 1]) := upd_same
      generalize upd I5 b2 (.tup [.int 1, .int 1]) = I6 at i6 gd ⊢
      refine ⟨(by show 2 ≤ sizeLine; decide), fun op nop => ?_⟩
      have i7 := Same.new (H := I6) (p := op) (o := .tup [.ref b1, .ref b2]) nop
      have go : upd I6 op (.tup [.ref b1, .ref b2]) op = some (.tup [.ref b1, .ref b2]) := upd_same
      generalize upd I6 op (.tup [.ref b1, .ref b2]) = I7 at i7 go ⊢
      rw [← f1] at ga gd
      rw [← f0] at gb gc
      have x6 := i6.trans i7
      have x5 := i5.trans x6
      have x4 := i4.trans x5
      have x3 := i3.trans x4
      have x2 := i2.trans x3
      have hs : SolT K I7 sp [1, 0] := ⟨a1, a2, tup_of (x5 _ _ gs), tup_of (x3 _ _ ga), tup_of (x4 _ _ gb)⟩
      have ho : SolT K I7 op [0, 1] := ⟨b1, b2, tup_of go, tup_of (x6 _ _ gc), tup_of (i7 _ _ gd)⟩
      have g1 : Good (.cub 1) 0 [1, 0] := .inl ⟨rfl, .inl rfl⟩
      have g2 : Good (.cub 1) 0 [0, 1] := .inl ⟨rfl, .inr rfl⟩
      have p1 := good_pre g1
      have p2 := good_pre g2
      obtain ⟨R, eR⟩ : ∃ R, sum (Qn.cub 1).e (pnt (.cub 1) [1, 0]) (pnt (.cub 1) [0, 1]) = R := ⟨_, rfl⟩
      have R0 : R = none := by
        rw [← eR]
        decide +kernel
      subst R0
      refine ⟨qc, sp, op, .cub 1, [1, 0], [0, 1], _, _, rfl, tup_of ((i2.trans x3) _ _ gq), p1.bd, hs, ho, p1.cal, p2.cal, p1.ebd, p1.on, p2.on, p1.hb, p2.hb, (show 10 + 10 ≤ 400 by decide), by rw [eR]; trivial, fun o v J hO sJ hv => ?_⟩
      rw [eR] at hO
      replace hO : o = none := hO
      subst hO
      rw [show v = .non from hv]
      refine ⟨rfl, ?_⟩
      exact q _
end
end K55
set_option Elab.async false
set_option linter.all false
set_option maxRecDepth 100000
set_option maxHeartbeats 4000000
namespace K55
open PySem PySem.Spec PyProof.Rows L2 Gd
theorem all_mk {P : Program} {w : World} {K : PySem.W.Frag} {h : Heap} {mg : Str → Option Value} {fa : Addr} (X : K.In h) (G : h.Ns mainGlobals mg) (hfa : mg "law" = some (.ref fa))
    {f2 : Addr} {od2 an2 : Option Addr} {sl2 : Array (Option Value)} {oc2 kV2 dc2 pm2 cd2 ct2 : Value}
    {f3 : Addr} {od3 an3 : Option Addr} {sl3 : Array (Option Value)} {oc3 kV3 dc3 pm3 cd3 ct3 : Value}
    {f4 : Addr} {od4 an4 : Option Addr} {sl4 : Array (Option Value)} {oc4 kV4 dc4 pm4 cd4 ct4 : Value}
    {f5 : Addr} {od5 an5 : Option Addr} {sl5 : Array (Option Value)} {oc5 kV5 dc5 pm5 cd5 ct5 : Value}
    {f7 : Addr} {od7 an7 : Option Addr} {sl7 : Array (Option Value)} {oc7 kV7 dc7 pm7 cd7 ct7 : Value}
    {f8 : Addr} {od8 an8 : Option Addr} {sl8 : Array (Option Value)} {oc8 kV8 dc8 pm8 cd8 ct8 : Value}
    {f9 : Addr} {od9 an9 : Option Addr} {sl9 : Array (Option Value)} {oc9 kV9 dc9 pm9 cd9 ct9 : Value}
    {f10 : Addr} {od10 an10 : Option Addr} {sl10 : Array (Option Value)} {oc10 kV10 dc10 pm10 cd10 ct10 : Value}
    {f11 : Addr} {od11 an11 : Option Addr} {sl11 : Array (Option Value)} {oc11 kV11 dc11 pm11 cd11 ct11 : Value}
    {f12 : Addr} {od12 an12 : Option Addr} {sl12 : Array (Option Value)} {oc12 kV12 dc12 pm12 cd12 ct12 : Value}
    {f13 : Addr} {od13 an13 : Option Addr} {sl13 : Array (Option Value)} {oc13 kV13 dc13 pm13 cd13 ct13 : Value}
    {f14 : Addr} {od14 an14 : Option Addr} {sl14 : Array (Option Value)} {oc14 kV14 dc14 pm14 cd14 ct14 : Value}
    {f16 : Addr} {od16 an16 : Option Addr} {sl16 : Array (Option Value)} {oc16 kV16 dc16 pm16 cd16 ct16 : Value}
    {f18 : Addr} {od18 an18 : Option Addr} {sl18 : Array (Option Value)} {oc18 kV18 dc18 pm18 cd18 ct18 : Value}
    {f19 : Addr} {od19 an19 : Option Addr} {sl19 : Array (Option Value)} {oc19 kV19 dc19 pm19 cd19 ct19 : Value}
    {f20 : Addr} {od20 an20 : Option Addr} {sl20 : Array (Option Value)} {oc20 kV20 dc20 pm20 cd20 ct20 : Value}
    {f21 : Addr} {od21 an21 : Option Addr} {sl21 : Array (Option Value)} {oc21 kV21 dc21 pm21 cd21 ct21 : Value}
    {f23 : Addr} {od23 an23 : Option Addr} {sl23 : Array (Option Value)} {oc23 kV23 dc23 pm23 cd23 ct23 : Value}
    {f24 : Addr} {od24 an24 : Option Addr} {sl24 : Array (Option Value)} {oc24 kV24 dc24 pm24 cd24 ct24 : Value}
    {f25 : Addr} {od25 an25 : Option Addr} {sl25 : Array (Option Value)} {oc25 kV25 dc25 pm25 cd25 ct25 : Value}
    {f26 : Addr} {od26 an26 : Option Addr} {sl26 : Array (Option Value)} {oc26 kV26 dc26 pm26 cd26 ct26 : Value}
    {f27 : Addr} {od27 an27 : Option Addr} {sl27 : Array (Option Value)} {oc27 kV27 dc27 pm27 cd27 ct27 : Value}
    {f28 : Addr} {od28 an28 : Option Addr} {sl28 : Array (Option Value)} {oc28 kV28 dc28 pm28 cd28 ct28 : Value}
    {f29 : Addr} {od29 an29 : Option Addr} {sl29 : Array (Option Value)} {oc29 kV29 dc29 pm29 cd29 ct29 : Value}
    {f30 : Addr} {od30 an30 : Option Addr} {sl30 : Array (Option Value)} {oc30 kV30 dc30 pm30 cd30 ct30 : Value}
    {f31 : Addr} {od31 an31 : Option Addr} {sl31 : Array (Option Value)} {oc31 kV31 dc31 pm31 cd31 ct31 : Value}
    {f32 : Addr} {od32 an32 : Option Addr} {sl32 : Array (Option Value)} {oc32 kV32 dc32 pm32 cd32 ct32 : Value}
    {f33 : Addr} {od33 an33 : Option Addr} {sl33 : Array (Option Value)} {oc33 kV33 dc33 pm33 cd33 ct33 : Value}
    {f35 : Addr} {od35 an35 : Option Addr} {sl35 : Array (Option Value)} {oc35 kV35 dc35 pm35 cd35 ct35 : Value}
    {f36 : Addr} {od36 an36 : Option Addr} {sl36 : Array (Option Value)} {oc36 kV36 dc36 pm36 cd36 ct36 : Value}
    {f37 : Addr} {od37 an37 : Option Addr} {sl37 : Array (Option Value)} {oc37 kV37 dc37 pm37 cd37 ct37 : Value}
    {f39 : Addr} {od39 an39 : Option Addr} {sl39 : Array (Option Value)} {oc39 kV39 dc39 pm39 cd39 ct39 : Value}
    {f40 : Addr} {od40 an40 : Option Addr} {sl40 : Array (Option Value)} {oc40 kV40 dc40 pm40 cd40 ct40 : Value}
    {f41 : Addr} {od41 an41 : Option Addr} {sl41 : Array (Option Value)} {oc41 kV41 dc41 pm41 cd41 ct41 : Value}
    {f42 : Addr} {od42 an42 : Option Addr} {sl42 : Array (Option Value)} {oc42 kV42 dc42 pm42 cd42 ct42 : Value}
    {f43 : Addr} {od43 an43 : Option Addr} {sl43 : Array (Option Value)} {oc43 kV43 dc43 pm43 cd43 ct43 : Value}
    {f44 : Addr} {od44 an44 : Option Addr} {sl44 : Array (Option Value)} {oc44 kV44 dc44 pm44 cd44 ct44 : Value}
    {f45 : Addr} {od45 an45 : Option Addr} {sl45 : Array (Option Value)} {oc45 kV45 dc45 pm45 cd45 ct45 : Value}
    {f46 : Addr} {od46 an46 : Option Addr} {sl46 : Array (Option Value)} {oc46 kV46 dc46 pm46 cd46 ct46 : Value}
    {f49 : Addr} {od49 an49 : Option Addr} {sl49 : Array (Option Value)} {oc49 kV49 dc49 pm49 cd49 ct49 : Value}
    {f51 : Addr} {od51 an51 : Option Addr} {sl51 : Array (Option Value)} {oc51 kV51 dc51 pm51 cd51 ct51 : Value}
    {f52 : Addr} {od52 an52 : Option Addr} {sl52 : Array (Option Value)} {oc52 kV52 dc52 pm52 cd52 ct52 : Value}
    {f54 : Addr} {od54 an54 : Option Addr} {sl54 : Array (Option Value)} {oc54 kV54 dc54 pm54 cd54 ct54 : Value}
    {f55 : Addr} {od55 an55 : Option Addr} {sl55 : Array (Option Value)} {oc55 kV55 dc55 pm55 cd55 ct55 : Value}
    {f56 : Addr} {od56 an56 : Option Addr} {sl56 : Array (Option Value)} {oc56 kV56 dc56 pm56 cd56 ct56 : Value}
    {f57 : Addr} {od57 an57 : Option Addr} {sl57 : Array (Option Value)} {oc57 kV57 dc57 pm57 cd57 ct57 : Value}
    {f58 : Addr} {od58 an58 : Option Addr} {sl58 : Array (Option Value)} {oc58 kV58 dc58 pm58 cd58 ct58 : Value}
    {f59 : Addr} {od59 an59 : Option Addr} {sl59 : Array (Option Value)} {oc59 kV59 dc59 pm59 cd59 ct59 : Value}
    {f60 : Addr} {od60 an60 : Option Addr} {sl60 : Array (Option Value)} {oc60 kV60 dc60 pm60 cd60 ct60 : Value}
    {f61 : Addr} {od61 an61 : Option Addr} {sl61 : Array (Option Value)} {oc61 kV61 dc61 pm61 cd61 ct61 : Value}
    {f62 : Addr} {od62 an62 : Option Addr} {sl62 : Array (Option Value)} {oc62 kV62 dc62 pm62 cd62 ct62 : Value}
    {f63 : Addr} {od63 an63 : Option Addr} {sl63 : Array (Option Value)} {oc63 kV63 dc63 pm63 cd63 ct63 : Value}
    {f64 : Addr} {od64 an64 : Option Addr} {sl64 : Array (Option Value)} {oc64 kV64 dc64 pm64 cd64 ct64 : Value}
    (a2 : PySem.W.nsIn K mainGlobals "power" = some (some (.ref f2))) (l2 : K.lookup f2 = some ⟨oc2, od2, .func (PySem.W.fnOf "power" "power" (defArgs s_power) (defBody s_power) (defScope s_power) .none kV2 dc2 pm2 an2 cd2 ct2), sl2⟩) (c2 : PySem.W.codeIn K cd2 "power" = true) (k2 : PySem.W.keepIn K (.ref f2) = true)
    (a3 : PySem.W.nsIn K mainGlobals "lowest" = some (some (.ref f3))) (l3 : K.lookup f3 = some ⟨oc3, od3, .func (PySem.W.fnOf "lowest" "lowest" (defArgs s_lowest) (defBody s_lowest) (defScope s_lowest) .none kV3 dc3 pm3 an3 cd3 ct3), sl3⟩) (c3 : PySem.W.codeIn K cd3 "lowest" = true) (k3 : PySem.W.keepIn K (.ref f3) = true)
    (a4 : PySem.W.nsIn K mainGlobals "root_of" = some (some (.ref f4))) (l4 : K.lookup f4 = some ⟨oc4, od4, .func (PySem.W.fnOf "root_of" "root_of" (defArgs s_root_of) (defBody s_root_of) (defScope s_root_of) .none kV4 dc4 pm4 an4 cd4 ct4), sl4⟩) (c4 : PySem.W.codeIn K cd4 "root_of" = true) (k4 : PySem.W.keepIn K (.ref f4) = true)
    (a5 : PySem.W.nsIn K mainGlobals "exact_root" = some (some (.ref f5))) (l5 : K.lookup f5 = some ⟨oc5, od5, .func (PySem.W.fnOf "exact_root" "exact_root" (defArgs s_exact_root) (defBody s_exact_root) (defScope s_exact_root) .none kV5 dc5 pm5 an5 cd5 ct5), sl5⟩) (c5 : PySem.W.codeIn K cd5 "exact_root" = true) (k5 : PySem.W.keepIn K (.ref f5) = true)
    (a7 : PySem.W.nsIn K mainGlobals "plus" = some (some (.ref f7))) (l7 : K.lookup f7 = some ⟨oc7, od7, .func (PySem.W.fnOf "plus" "plus" (defArgs s_plus) (defBody s_plus) (defScope s_plus) .none kV7 dc7 pm7 an7 cd7 ct7), sl7⟩) (c7 : PySem.W.codeIn K cd7 "plus" = true) (k7 : PySem.W.keepIn K (.ref f7) = true)
    (a8 : PySem.W.nsIn K mainGlobals "less" = some (some (.ref f8))) (l8 : K.lookup f8 = some ⟨oc8, od8, .func (PySem.W.fnOf "less" "less" (defArgs s_less) (defBody s_less) (defScope s_less) .none kV8 dc8 pm8 an8 cd8 ct8), sl8⟩) (c8 : PySem.W.codeIn K cd8 "less" = true) (k8 : PySem.W.keepIn K (.ref f8) = true)
    (a9 : PySem.W.nsIn K mainGlobals "times" = some (some (.ref f9))) (l9 : K.lookup f9 = some ⟨oc9, od9, .func (PySem.W.fnOf "times" "times" (defArgs s_times) (defBody s_times) (defScope s_times) .none kV9 dc9 pm9 an9 cd9 ct9), sl9⟩) (c9 : PySem.W.codeIn K cd9 "times" = true) (k9 : PySem.W.keepIn K (.ref f9) = true)
    (a10 : PySem.W.nsIn K mainGlobals "over" = some (some (.ref f10))) (l10 : K.lookup f10 = some ⟨oc10, od10, .func (PySem.W.fnOf "over" "over" (defArgs s_over) (defBody s_over) (defScope s_over) .none kV10 dc10 pm10 an10 cd10 ct10), sl10⟩) (c10 : PySem.W.codeIn K cd10 "over" = true) (k10 : PySem.W.keepIn K (.ref f10) = true)
    (a11 : PySem.W.nsIn K mainGlobals "total" = some (some (.ref f11))) (l11 : K.lookup f11 = some ⟨oc11, od11, .func (PySem.W.fnOf "total" "total" (defArgs s_total) (defBody s_total) (defScope s_total) .none kV11 dc11 pm11 an11 cd11 ct11), sl11⟩) (c11 : PySem.W.codeIn K cd11 "total" = true) (k11 : PySem.W.keepIn K (.ref f11) = true)
    (a12 : PySem.W.nsIn K mainGlobals "product" = some (some (.ref f12))) (l12 : K.lookup f12 = some ⟨oc12, od12, .func (PySem.W.fnOf "product" "product" (defArgs s_product) (defBody s_product) (defScope s_product) .none kV12 dc12 pm12 an12 cd12 ct12), sl12⟩) (c12 : PySem.W.codeIn K cd12 "product" = true) (k12 : PySem.W.keepIn K (.ref f12) = true)
    (a13 : PySem.W.nsIn K mainGlobals "is_below" = some (some (.ref f13))) (l13 : K.lookup f13 = some ⟨oc13, od13, .func (PySem.W.fnOf "is_below" "is_below" (defArgs s_is_below) (defBody s_is_below) (defScope s_is_below) .none kV13 dc13 pm13 an13 cd13 ct13), sl13⟩) (c13 : PySem.W.codeIn K cd13 "is_below" = true) (k13 : PySem.W.keepIn K (.ref f13) = true)
    (a14 : PySem.W.nsIn K mainGlobals "root_of_fraction" = some (some (.ref f14))) (l14 : K.lookup f14 = some ⟨oc14, od14, .func (PySem.W.fnOf "root_of_fraction" "root_of_fraction" (defArgs s_root_of_fraction) (defBody s_root_of_fraction) (defScope s_root_of_fraction) .none kV14 dc14 pm14 an14 cd14 ct14), sl14⟩) (c14 : PySem.W.codeIn K cd14 "root_of_fraction" = true) (k14 : PySem.W.keepIn K (.ref f14) = true)
    (a16 : PySem.W.nsIn K mainGlobals "five" = some (some (.ref f16))) (l16 : K.lookup f16 = some ⟨oc16, od16, .func (PySem.W.fnOf "five" "five" (defArgs s_five) (defBody s_five) (defScope s_five) .none kV16 dc16 pm16 an16 cd16 ct16), sl16⟩) (c16 : PySem.W.codeIn K cd16 "five" = true) (k16 : PySem.W.keepIn K (.ref f16) = true)
    (a18 : PySem.W.nsIn K mainGlobals "opposite" = some (some (.ref f18))) (l18 : K.lookup f18 = some ⟨oc18, od18, .func (PySem.W.fnOf "opposite" "opposite" (defArgs s_opposite) (defBody s_opposite) (defScope s_opposite) .none kV18 dc18 pm18 an18 cd18 ct18), sl18⟩) (c18 : PySem.W.codeIn K cd18 "opposite" = true) (k18 : PySem.W.keepIn K (.ref f18) = true)
    (a19 : PySem.W.nsIn K mainGlobals "tangent_slope" = some (some (.ref f19))) (l19 : K.lookup f19 = some ⟨oc19, od19, .func (PySem.W.fnOf "tangent_slope" "tangent_slope" (defArgs s_tangent_slope) (defBody s_tangent_slope) (defScope s_tangent_slope) .none kV19 dc19 pm19 an19 cd19 ct19), sl19⟩) (c19 : PySem.W.codeIn K cd19 "tangent_slope" = true) (k19 : PySem.W.keepIn K (.ref f19) = true)
    (a20 : PySem.W.nsIn K mainGlobals "line_of" = some (some (.ref f20))) (l20 : K.lookup f20 = some ⟨oc20, od20, .func (PySem.W.fnOf "line_of" "line_of" (defArgs s_line_of) (defBody s_line_of) (defScope s_line_of) .none kV20 dc20 pm20 an20 cd20 ct20), sl20⟩) (c20 : PySem.W.codeIn K cd20 "line_of" = true) (k20 : PySem.W.keepIn K (.ref f20) = true)
    (a21 : PySem.W.nsIn K mainGlobals "added" = some (some (.ref f21))) (l21 : K.lookup f21 = some ⟨oc21, od21, .func (PySem.W.fnOf "added" "added" (defArgs s_added) (defBody s_added) (defScope s_added) .none kV21 dc21 pm21 an21 cd21 ct21), sl21⟩) (c21 : PySem.W.codeIn K cd21 "added" = true) (k21 : PySem.W.keepIn K (.ref f21) = true)
    (a23 : PySem.W.nsIn K mainGlobals "amount" = some (some (.ref f23))) (l23 : K.lookup f23 = some ⟨oc23, od23, .func (PySem.W.fnOf "amount" "amount" (defArgs s_amount) (defBody s_amount) (defScope s_amount) .none kV23 dc23 pm23 an23 cd23 ct23), sl23⟩) (c23 : PySem.W.codeIn K cd23 "amount" = true) (k23 : PySem.W.keepIn K (.ref f23) = true)
    (a24 : PySem.W.nsIn K mainGlobals "triangle_curve" = some (some (.ref f24))) (l24 : K.lookup f24 = some ⟨oc24, od24, .func (PySem.W.fnOf "triangle_curve" "triangle_curve" (defArgs s_triangle_curve) (defBody s_triangle_curve) (defScope s_triangle_curve) .none kV24 dc24 pm24 an24 cd24 ct24), sl24⟩) (c24 : PySem.W.codeIn K cd24 "triangle_curve" = true) (k24 : PySem.W.keepIn K (.ref f24) = true)
    (a25 : PySem.W.nsIn K mainGlobals "triangle_of" = some (some (.ref f25))) (l25 : K.lookup f25 = some ⟨oc25, od25, .func (PySem.W.fnOf "triangle_of" "triangle_of" (defArgs s_triangle_of) (defBody s_triangle_of) (defScope s_triangle_of) .none kV25 dc25 pm25 an25 cd25 ct25), sl25⟩) (c25 : PySem.W.codeIn K cd25 "triangle_of" = true) (k25 : PySem.W.keepIn K (.ref f25) = true)
    (a26 : PySem.W.nsIn K mainGlobals "triangle_point" = some (some (.ref f26))) (l26 : K.lookup f26 = some ⟨oc26, od26, .func (PySem.W.fnOf "triangle_point" "triangle_point" (defArgs s_triangle_point) (defBody s_triangle_point) (defScope s_triangle_point) .none kV26 dc26 pm26 an26 cd26 ct26), sl26⟩) (c26 : PySem.W.codeIn K cd26 "triangle_point" = true) (k26 : PySem.W.keepIn K (.ref f26) = true)
    (a27 : PySem.W.nsIn K mainGlobals "concord_curve" = some (some (.ref f27))) (l27 : K.lookup f27 = some ⟨oc27, od27, .func (PySem.W.fnOf "concord_curve" "concord_curve" (defArgs s_concord_curve) (defBody s_concord_curve) (defScope s_concord_curve) .none kV27 dc27 pm27 an27 cd27 ct27), sl27⟩) (c27 : PySem.W.codeIn K cd27 "concord_curve" = true) (k27 : PySem.W.keepIn K (.ref f27) = true)
    (a28 : PySem.W.nsIn K mainGlobals "concord_of" = some (some (.ref f28))) (l28 : K.lookup f28 = some ⟨oc28, od28, .func (PySem.W.fnOf "concord_of" "concord_of" (defArgs s_concord_of) (defBody s_concord_of) (defScope s_concord_of) .none kV28 dc28 pm28 an28 cd28 ct28), sl28⟩) (c28 : PySem.W.codeIn K cd28 "concord_of" = true) (k28 : PySem.W.keepIn K (.ref f28) = true)
    (a29 : PySem.W.nsIn K mainGlobals "concord_point" = some (some (.ref f29))) (l29 : K.lookup f29 = some ⟨oc29, od29, .func (PySem.W.fnOf "concord_point" "concord_point" (defArgs s_concord_point) (defBody s_concord_point) (defScope s_concord_point) .none kV29 dc29 pm29 an29 cd29 ct29), sl29⟩) (c29 : PySem.W.codeIn K cd29 "concord_point" = true) (k29 : PySem.W.keepIn K (.ref f29) = true)
    (a30 : PySem.W.nsIn K mainGlobals "cubes_curve" = some (some (.ref f30))) (l30 : K.lookup f30 = some ⟨oc30, od30, .func (PySem.W.fnOf "cubes_curve" "cubes_curve" (defArgs s_cubes_curve) (defBody s_cubes_curve) (defScope s_cubes_curve) .none kV30 dc30 pm30 an30 cd30 ct30), sl30⟩) (c30 : PySem.W.codeIn K cd30 "cubes_curve" = true) (k30 : PySem.W.keepIn K (.ref f30) = true)
    (a31 : PySem.W.nsIn K mainGlobals "cubes_of" = some (some (.ref f31))) (l31 : K.lookup f31 = some ⟨oc31, od31, .func (PySem.W.fnOf "cubes_of" "cubes_of" (defArgs s_cubes_of) (defBody s_cubes_of) (defScope s_cubes_of) .none kV31 dc31 pm31 an31 cd31 ct31), sl31⟩) (c31 : PySem.W.codeIn K cd31 "cubes_of" = true) (k31 : PySem.W.keepIn K (.ref f31) = true)
    (a32 : PySem.W.nsIn K mainGlobals "cubes_point" = some (some (.ref f32))) (l32 : K.lookup f32 = some ⟨oc32, od32, .func (PySem.W.fnOf "cubes_point" "cubes_point" (defArgs s_cubes_point) (defBody s_cubes_point) (defScope s_cubes_point) .none kV32 dc32 pm32 an32 cd32 ct32), sl32⟩) (c32 : PySem.W.codeIn K cd32 "cubes_point" = true) (k32 : PySem.W.keepIn K (.ref f32) = true)
    (a33 : PySem.W.nsIn K mainGlobals "sum_of" = some (some (.ref f33))) (l33 : K.lookup f33 = some ⟨oc33, od33, .func (PySem.W.fnOf "sum_of" "sum_of" (defArgs s_sum_of) (defBody s_sum_of) (defScope s_sum_of) .none kV33 dc33 pm33 an33 cd33 ct33), sl33⟩) (c33 : PySem.W.codeIn K cd33 "sum_of" = true) (k33 : PySem.W.keepIn K (.ref f33) = true)
    (a35 : PySem.W.nsIn K mainGlobals "_law_begun" = some (some (.ref f35))) (l35 : K.lookup f35 = some ⟨oc35, od35, .func (PySem.W.fnOf "_law_begun" "_law_begun" (defArgs s__law_begun) (defBody s__law_begun) (defScope s__law_begun) .none kV35 dc35 pm35 an35 cd35 ct35), sl35⟩) (c35 : PySem.W.codeIn K cd35 "_law_begun" = true) (k35 : PySem.W.keepIn K (.ref f35) = true)
    (a36 : PySem.W.nsIn K mainGlobals "_law_draw" = some (some (.ref f36))) (l36 : K.lookup f36 = some ⟨oc36, od36, .func (PySem.W.fnOf "_law_draw" "_law_draw" (defArgs s__law_draw) (defBody s__law_draw) (defScope s__law_draw) .none kV36 dc36 pm36 an36 cd36 ct36), sl36⟩) (c36 : PySem.W.codeIn K cd36 "_law_draw" = true) (k36 : PySem.W.keepIn K (.ref f36) = true)
    (a37 : PySem.W.nsIn K mainGlobals "_law_of" = some (some (.ref f37))) (l37 : K.lookup f37 = some ⟨oc37, od37, .func (PySem.W.fnOf "_law_of" "_law_of" (defArgs s__law_of) (defBody s__law_of) (defScope s__law_of) .none kV37 dc37 pm37 an37 cd37 ct37), sl37⟩) (c37 : PySem.W.codeIn K cd37 "_law_of" = true) (k37 : PySem.W.keepIn K (.ref f37) = true)
    (a39 : PySem.W.nsIn K mainGlobals "_law_common" = some (some (.ref f39))) (l39 : K.lookup f39 = some ⟨oc39, od39, .func (PySem.W.fnOf "_law_common" "_law_common" (defArgs s__law_common) (defBody s__law_common) (defScope s__law_common) .none kV39 dc39 pm39 an39 cd39 ct39), sl39⟩) (c39 : PySem.W.codeIn K cd39 "_law_common" = true) (k39 : PySem.W.keepIn K (.ref f39) = true)
    (a40 : PySem.W.nsIn K mainGlobals "_law_class" = some (some (.ref f40))) (l40 : K.lookup f40 = some ⟨oc40, od40, .func (PySem.W.fnOf "_law_class" "_law_class" (defArgs s__law_class) (defBody s__law_class) (defScope s__law_class) .none kV40 dc40 pm40 an40 cd40 ct40), sl40⟩) (c40 : PySem.W.codeIn K cd40 "_law_class" = true) (k40 : PySem.W.keepIn K (.ref f40) = true)
    (a41 : PySem.W.nsIn K mainGlobals "_law_root" = some (some (.ref f41))) (l41 : K.lookup f41 = some ⟨oc41, od41, .func (PySem.W.fnOf "_law_root" "_law_root" (defArgs s__law_root) (defBody s__law_root) (defScope s__law_root) .none kV41 dc41 pm41 an41 cd41 ct41), sl41⟩) (c41 : PySem.W.codeIn K cd41 "_law_root" = true) (k41 : PySem.W.keepIn K (.ref f41) = true)
    (a42 : PySem.W.nsIn K mainGlobals "_law_cut" = some (some (.ref f42))) (l42 : K.lookup f42 = some ⟨oc42, od42, .func (PySem.W.fnOf "_law_cut" "_law_cut" (defArgs s__law_cut) (defBody s__law_cut) (defScope s__law_cut) .none kV42 dc42 pm42 an42 cd42 ct42), sl42⟩) (c42 : PySem.W.codeIn K cd42 "_law_cut" = true) (k42 : PySem.W.keepIn K (.ref f42) = true)
    (a43 : PySem.W.nsIn K mainGlobals "_law_plus" = some (some (.ref f43))) (l43 : K.lookup f43 = some ⟨oc43, od43, .func (PySem.W.fnOf "_law_plus" "_law_plus" (defArgs s__law_plus) (defBody s__law_plus) (defScope s__law_plus) .none kV43 dc43 pm43 an43 cd43 ct43), sl43⟩) (c43 : PySem.W.codeIn K cd43 "_law_plus" = true) (k43 : PySem.W.keepIn K (.ref f43) = true)
    (a44 : PySem.W.nsIn K mainGlobals "_law_less" = some (some (.ref f44))) (l44 : K.lookup f44 = some ⟨oc44, od44, .func (PySem.W.fnOf "_law_less" "_law_less" (defArgs s__law_less) (defBody s__law_less) (defScope s__law_less) .none kV44 dc44 pm44 an44 cd44 ct44), sl44⟩) (c44 : PySem.W.codeIn K cd44 "_law_less" = true) (k44 : PySem.W.keepIn K (.ref f44) = true)
    (a45 : PySem.W.nsIn K mainGlobals "_law_by" = some (some (.ref f45))) (l45 : K.lookup f45 = some ⟨oc45, od45, .func (PySem.W.fnOf "_law_by" "_law_by" (defArgs s__law_by) (defBody s__law_by) (defScope s__law_by) .none kV45 dc45 pm45 an45 cd45 ct45), sl45⟩) (c45 : PySem.W.codeIn K cd45 "_law_by" = true) (k45 : PySem.W.keepIn K (.ref f45) = true)
    (a46 : PySem.W.nsIn K mainGlobals "_law_over" = some (some (.ref f46))) (l46 : K.lookup f46 = some ⟨oc46, od46, .func (PySem.W.fnOf "_law_over" "_law_over" (defArgs s__law_over) (defBody s__law_over) (defScope s__law_over) .none kV46 dc46 pm46 an46 cd46 ct46), sl46⟩) (c46 : PySem.W.codeIn K cd46 "_law_over" = true) (k46 : PySem.W.keepIn K (.ref f46) = true)
    (a49 : PySem.W.nsIn K mainGlobals "_law_bent" = some (some (.ref f49))) (l49 : K.lookup f49 = some ⟨oc49, od49, .func (PySem.W.fnOf "_law_bent" "_law_bent" (defArgs s__law_bent) (defBody s__law_bent) (defScope s__law_bent) .none kV49 dc49 pm49 an49 cd49 ct49), sl49⟩) (c49 : PySem.W.codeIn K cd49 "_law_bent" = true) (k49 : PySem.W.keepIn K (.ref f49) = true)
    (a51 : PySem.W.nsIn K mainGlobals "_law_turned" = some (some (.ref f51))) (l51 : K.lookup f51 = some ⟨oc51, od51, .func (PySem.W.fnOf "_law_turned" "_law_turned" (defArgs s__law_turned) (defBody s__law_turned) (defScope s__law_turned) .none kV51 dc51 pm51 an51 cd51 ct51), sl51⟩) (c51 : PySem.W.codeIn K cd51 "_law_turned" = true) (k51 : PySem.W.keepIn K (.ref f51) = true)
    (a52 : PySem.W.nsIn K mainGlobals "_law_sum" = some (some (.ref f52))) (l52 : K.lookup f52 = some ⟨oc52, od52, .func (PySem.W.fnOf "_law_sum" "_law_sum" (defArgs s__law_sum) (defBody s__law_sum) (defScope s__law_sum) .none kV52 dc52 pm52 an52 cd52 ct52), sl52⟩) (c52 : PySem.W.codeIn K cd52 "_law_sum" = true) (k52 : PySem.W.keepIn K (.ref f52) = true)
    (a54 : PySem.W.nsIn K mainGlobals "_law_amount" = some (some (.ref f54))) (l54 : K.lookup f54 = some ⟨oc54, od54, .func (PySem.W.fnOf "_law_amount" "_law_amount" (defArgs s__law_amount) (defBody s__law_amount) (defScope s__law_amount) .none kV54 dc54 pm54 an54 cd54 ct54), sl54⟩) (c54 : PySem.W.codeIn K cd54 "_law_amount" = true) (k54 : PySem.W.keepIn K (.ref f54) = true)
    (a55 : PySem.W.nsIn K mainGlobals "_law_triangle" = some (some (.ref f55))) (l55 : K.lookup f55 = some ⟨oc55, od55, .func (PySem.W.fnOf "_law_triangle" "_law_triangle" (defArgs s__law_triangle) (defBody s__law_triangle) (defScope s__law_triangle) .none kV55 dc55 pm55 an55 cd55 ct55), sl55⟩) (c55 : PySem.W.codeIn K cd55 "_law_triangle" = true) (k55 : PySem.W.keepIn K (.ref f55) = true)
    (a56 : PySem.W.nsIn K mainGlobals "_law_concord" = some (some (.ref f56))) (l56 : K.lookup f56 = some ⟨oc56, od56, .func (PySem.W.fnOf "_law_concord" "_law_concord" (defArgs s__law_concord) (defBody s__law_concord) (defScope s__law_concord) .none kV56 dc56 pm56 an56 cd56 ct56), sl56⟩) (c56 : PySem.W.codeIn K cd56 "_law_concord" = true) (k56 : PySem.W.keepIn K (.ref f56) = true)
    (a57 : PySem.W.nsIn K mainGlobals "_law_point" = some (some (.ref f57))) (l57 : K.lookup f57 = some ⟨oc57, od57, .func (PySem.W.fnOf "_law_point" "_law_point" (defArgs s__law_point) (defBody s__law_point) (defScope s__law_point) .none kV57 dc57 pm57 an57 cd57 ct57), sl57⟩) (c57 : PySem.W.codeIn K cd57 "_law_point" = true) (k57 : PySem.W.keepIn K (.ref f57) = true)
    (a58 : PySem.W.nsIn K mainGlobals "_law_root_of" = some (some (.ref f58))) (l58 : K.lookup f58 = some ⟨oc58, od58, .func (PySem.W.fnOf "_law_root_of" "_law_root_of" (defArgs s__law_root_of) (defBody s__law_root_of) (defScope s__law_root_of) .none kV58 dc58 pm58 an58 cd58 ct58), sl58⟩) (c58 : PySem.W.codeIn K cd58 "_law_root_of" = true) (k58 : PySem.W.keepIn K (.ref f58) = true)
    (a59 : PySem.W.nsIn K mainGlobals "_law_told_triangle" = some (some (.ref f59))) (l59 : K.lookup f59 = some ⟨oc59, od59, .func (PySem.W.fnOf "_law_told_triangle" "_law_told_triangle" (defArgs s__law_told_triangle) (defBody s__law_told_triangle) (defScope s__law_told_triangle) .none kV59 dc59 pm59 an59 cd59 ct59), sl59⟩) (c59 : PySem.W.codeIn K cd59 "_law_told_triangle" = true) (k59 : PySem.W.keepIn K (.ref f59) = true)
    (a60 : PySem.W.nsIn K mainGlobals "_law_told" = some (some (.ref f60))) (l60 : K.lookup f60 = some ⟨oc60, od60, .func (PySem.W.fnOf "_law_told" "_law_told" (defArgs s__law_told) (defBody s__law_told) (defScope s__law_told) .none kV60 dc60 pm60 an60 cd60 ct60), sl60⟩) (c60 : PySem.W.codeIn K cd60 "_law_told" = true) (k60 : PySem.W.keepIn K (.ref f60) = true)
    (a61 : PySem.W.nsIn K mainGlobals "_law_curve" = some (some (.ref f61))) (l61 : K.lookup f61 = some ⟨oc61, od61, .func (PySem.W.fnOf "_law_curve" "_law_curve" (defArgs s__law_curve) (defBody s__law_curve) (defScope s__law_curve) .none kV61 dc61 pm61 an61 cd61 ct61), sl61⟩) (c61 : PySem.W.codeIn K cd61 "_law_curve" = true) (k61 : PySem.W.keepIn K (.ref f61) = true)
    (a62 : PySem.W.nsIn K mainGlobals "_law_solves" = some (some (.ref f62))) (l62 : K.lookup f62 = some ⟨oc62, od62, .func (PySem.W.fnOf "_law_solves" "_law_solves" (defArgs s__law_solves) (defBody s__law_solves) (defScope s__law_solves) .none kV62 dc62 pm62 an62 cd62 ct62), sl62⟩) (c62 : PySem.W.codeIn K cd62 "_law_solves" = true) (k62 : PySem.W.keepIn K (.ref f62) = true)
    (a63 : PySem.W.nsIn K mainGlobals "_law_sums_right" = some (some (.ref f63))) (l63 : K.lookup f63 = some ⟨oc63, od63, .func (PySem.W.fnOf "_law_sums_right" "_law_sums_right" (defArgs s__law_sums_right) (defBody s__law_sums_right) (defScope s__law_sums_right) .none kV63 dc63 pm63 an63 cd63 ct63), sl63⟩) (c63 : PySem.W.codeIn K cd63 "_law_sums_right" = true) (k63 : PySem.W.keepIn K (.ref f63) = true)
    (a64 : PySem.W.nsIn K mainGlobals "law" = some (some (.ref f64))) (l64 : K.lookup f64 = some ⟨oc64, od64, .func (PySem.W.fnOf "law" "law" (defArgs s_law) (defBody s_law) (defScope s_law) .none kV64 dc64 pm64 an64 cd64 ct64), sl64⟩) (c64 : PySem.W.codeIn K cd64 "law" = true) (k64 : PySem.W.keepIn K (.ref f64) = true)
    (z_gcd : PySem.W.nsIn K mainGlobals "gcd" = some (some (.builtin "math.gcd")))
    (z_isqrt : PySem.W.nsIn K mainGlobals "isqrt" = some (some (.builtin "math.isqrt")))
    (z_int : PySem.W.nsIn K mainGlobals "int" = some none)
    (z_len : PySem.W.nsIn K mainGlobals "len" = some none)
    (z_tuple : PySem.W.nsIn K mainGlobals "tuple" = some none)
    (z_abs : PySem.W.nsIn K mainGlobals "abs" = some none)
    (z_range : PySem.W.nsIn K mainGlobals "range" = some none)
    (z_repr : PySem.W.nsIn K mainGlobals "repr" = some none)
    : ∃ fd : FuncData, (∀ (s : Shared) (v : Value), BindsTo s fd ⟨[v], []⟩ [("script", v)]) ∧ ∀ base : Heap, K.In base → base.Ns mainGlobals mg → FnG P w K mg base 9 fa fd ["script"] (sp_law K) := by
  have T : Tx K mg := ⟨PySem.W.mg_of X G z_gcd, PySem.W.mg_of X G z_isqrt, PySem.W.mg_none_of X G z_int, PySem.W.mg_none_of X G z_len, PySem.W.mg_none_of X G z_tuple, PySem.W.mg_none_of X G z_abs, PySem.W.mg_none_of X G z_range, PySem.W.mg_none_of X G z_repr⟩
  have d2 : Df K mg "power" s_power ["a", "e"] := df_mk X G a2 l2 c2 k2 (fun _ _ _ _ _ _ us hl => match us, hl with | [_, _], _ => rfl)
  have d3 : Df K mg "lowest" s_lowest ["n", "d"] := df_mk X G a3 l3 c3 k3 (fun _ _ _ _ _ _ us hl => match us, hl with | [_, _], _ => rfl)
  have d4 : Df K mg "root_of" s_root_of ["n", "k"] := df_mk X G a4 l4 c4 k4 (fun _ _ _ _ _ _ us hl => match us, hl with | [_, _], _ => rfl)
  have d5 : Df K mg "exact_root" s_exact_root ["n", "k"] := df_mk X G a5 l5 c5 k5 (fun _ _ _ _ _ _ us hl => match us, hl with | [_, _], _ => rfl)
  have d7 : Df K mg "plus" s_plus ["f", "g"] := df_mk X G a7 l7 c7 k7 (fun _ _ _ _ _ _ us hl => match us, hl with | [_, _], _ => rfl)
  have d8 : Df K mg "less" s_less ["f", "g"] := df_mk X G a8 l8 c8 k8 (fun _ _ _ _ _ _ us hl => match us, hl with | [_, _], _ => rfl)
  have d9 : Df K mg "times" s_times ["f", "g"] := df_mk X G a9 l9 c9 k9 (fun _ _ _ _ _ _ us hl => match us, hl with | [_, _], _ => rfl)
  have d10 : Df K mg "over" s_over ["f", "g"] := df_mk X G a10 l10 c10 k10 (fun _ _ _ _ _ _ us hl => match us, hl with | [_, _], _ => rfl)
  have d11 : Df K mg "total" s_total ["fractions"] := df_mk X G a11 l11 c11 k11 (fun _ _ _ _ _ _ us hl => match us, hl with | [_], _ => rfl)
  have d12 : Df K mg "product" s_product ["fractions"] := df_mk X G a12 l12 c12 k12 (fun _ _ _ _ _ _ us hl => match us, hl with | [_], _ => rfl)
  have d13 : Df K mg "is_below" s_is_below ["f", "g"] := df_mk X G a13 l13 c13 k13 (fun _ _ _ _ _ _ us hl => match us, hl with | [_, _], _ => rfl)
  have d14 : Df K mg "root_of_fraction" s_root_of_fraction ["f", "k"] := df_mk X G a14 l14 c14 k14 (fun _ _ _ _ _ _ us hl => match us, hl with | [_, _], _ => rfl)
  have d16 : Df K mg "five" s_five ["curve"] := df_mk X G a16 l16 c16 k16 (fun _ _ _ _ _ _ us hl => match us, hl with | [_], _ => rfl)
  have d18 : Df K mg "opposite" s_opposite ["curve", "point"] := df_mk X G a18 l18 c18 k18 (fun _ _ _ _ _ _ us hl => match us, hl with | [_, _], _ => rfl)
  have d19 : Df K mg "tangent_slope" s_tangent_slope ["curve", "point"] := df_mk X G a19 l19 c19 k19 (fun _ _ _ _ _ _ us hl => match us, hl with | [_, _], _ => rfl)
  have d20 : Df K mg "line_of" s_line_of ["curve", "point", "other"] := df_mk X G a20 l20 c20 k20 (fun _ _ _ _ _ _ us hl => match us, hl with | [_, _, _], _ => rfl)
  have d21 : Df K mg "added" s_added ["curve", "point", "other"] := df_mk X G a21 l21 c21 k21 (fun _ _ _ _ _ _ us hl => match us, hl with | [_, _, _], _ => rfl)
  have d23 : Df K mg "amount" s_amount ["f"] := df_mk X G a23 l23 c23 k23 (fun _ _ _ _ _ _ us hl => match us, hl with | [_], _ => rfl)
  have d24 : Df K mg "triangle_curve" s_triangle_curve ["n"] := df_mk X G a24 l24 c24 k24 (fun _ _ _ _ _ _ us hl => match us, hl with | [_], _ => rfl)
  have d25 : Df K mg "triangle_of" s_triangle_of ["n", "point"] := df_mk X G a25 l25 c25 k25 (fun _ _ _ _ _ _ us hl => match us, hl with | [_, _], _ => rfl)
  have d26 : Df K mg "triangle_point" s_triangle_point ["n", "triangle"] := df_mk X G a26 l26 c26 k26 (fun _ _ _ _ _ _ us hl => match us, hl with | [_, _], _ => rfl)
  have d27 : Df K mg "concord_curve" s_concord_curve ["m", "n"] := df_mk X G a27 l27 c27 k27 (fun _ _ _ _ _ _ us hl => match us, hl with | [_, _], _ => rfl)
  have d28 : Df K mg "concord_of" s_concord_of ["m", "n", "point"] := df_mk X G a28 l28 c28 k28 (fun _ _ _ _ _ _ us hl => match us, hl with | [_, _, _], _ => rfl)
  have d29 : Df K mg "concord_point" s_concord_point ["m", "n", "concord"] := df_mk X G a29 l29 c29 k29 (fun _ _ _ _ _ _ us hl => match us, hl with | [_, _, _], _ => rfl)
  have d30 : Df K mg "cubes_curve" s_cubes_curve ["n"] := df_mk X G a30 l30 c30 k30 (fun _ _ _ _ _ _ us hl => match us, hl with | [_], _ => rfl)
  have d31 : Df K mg "cubes_of" s_cubes_of ["n", "point"] := df_mk X G a31 l31 c31 k31 (fun _ _ _ _ _ _ us hl => match us, hl with | [_, _], _ => rfl)
  have d32 : Df K mg "cubes_point" s_cubes_point ["n", "pair"] := df_mk X G a32 l32 c32 k32 (fun _ _ _ _ _ _ us hl => match us, hl with | [_, _], _ => rfl)
  have d33 : Df K mg "sum_of" s_sum_of ["question", "solution", "other"] := df_mk X G a33 l33 c33 k33 (fun _ _ _ _ _ _ us hl => match us, hl with | [_, _, _], _ => rfl)
  have d35 : Df K mg "_law_begun" s__law_begun ["script", "k"] := df_mk X G a35 l35 c35 k35 (fun _ _ _ _ _ _ us hl => match us, hl with | [_, _], _ => rfl)
  have d36 : Df K mg "_law_draw" s__law_draw ["m", "below"] := df_mk X G a36 l36 c36 k36 (fun _ _ _ _ _ _ us hl => match us, hl with | [_, _], _ => rfl)
  have d37 : Df K mg "_law_of" s__law_of ["m", "some"] := df_mk X G a37 l37 c37 k37 (fun _ _ _ _ _ _ us hl => match us, hl with | [_, _], _ => rfl)
  have d39 : Df K mg "_law_common" s__law_common ["a", "b"] := df_mk X G a39 l39 c39 k39 (fun _ _ _ _ _ _ us hl => match us, hl with | [_, _], _ => rfl)
  have d40 : Df K mg "_law_class" s__law_class ["n"] := df_mk X G a40 l40 c40 k40 (fun _ _ _ _ _ _ us hl => match us, hl with | [_], _ => rfl)
  have d41 : Df K mg "_law_root" s__law_root ["n"] := df_mk X G a41 l41 c41 k41 (fun _ _ _ _ _ _ us hl => match us, hl with | [_], _ => rfl)
  have d42 : Df K mg "_law_cut" s__law_cut ["n", "d"] := df_mk X G a42 l42 c42 k42 (fun _ _ _ _ _ _ us hl => match us, hl with | [_, _], _ => rfl)
  have d43 : Df K mg "_law_plus" s__law_plus ["f", "g"] := df_mk X G a43 l43 c43 k43 (fun _ _ _ _ _ _ us hl => match us, hl with | [_, _], _ => rfl)
  have d44 : Df K mg "_law_less" s__law_less ["f", "g"] := df_mk X G a44 l44 c44 k44 (fun _ _ _ _ _ _ us hl => match us, hl with | [_, _], _ => rfl)
  have d45 : Df K mg "_law_by" s__law_by ["f", "g"] := df_mk X G a45 l45 c45 k45 (fun _ _ _ _ _ _ us hl => match us, hl with | [_, _], _ => rfl)
  have d46 : Df K mg "_law_over" s__law_over ["f", "g"] := df_mk X G a46 l46 c46 k46 (fun _ _ _ _ _ _ us hl => match us, hl with | [_, _], _ => rfl)
  have d49 : Df K mg "_law_bent" s__law_bent ["five_v", "x"] := df_mk X G a49 l49 c49 k49 (fun _ _ _ _ _ _ us hl => match us, hl with | [_, _], _ => rfl)
  have d51 : Df K mg "_law_turned" s__law_turned ["five_v", "point"] := df_mk X G a51 l51 c51 k51 (fun _ _ _ _ _ _ us hl => match us, hl with | [_, _], _ => rfl)
  have d52 : Df K mg "_law_sum" s__law_sum ["five_v", "one", "two"] := df_mk X G a52 l52 c52 k52 (fun _ _ _ _ _ _ us hl => match us, hl with | [_, _, _], _ => rfl)
  have d54 : Df K mg "_law_amount" s__law_amount ["f"] := df_mk X G a54 l54 c54 k54 (fun _ _ _ _ _ _ us hl => match us, hl with | [_], _ => rfl)
  have d55 : Df K mg "_law_triangle" s__law_triangle ["m"] := df_mk X G a55 l55 c55 k55 (fun _ _ _ _ _ _ us hl => match us, hl with | [_], _ => rfl)
  have d56 : Df K mg "_law_concord" s__law_concord ["m"] := df_mk X G a56 l56 c56 k56 (fun _ _ _ _ _ _ us hl => match us, hl with | [_], _ => rfl)
  have d57 : Df K mg "_law_point" s__law_point ["question", "solution"] := df_mk X G a57 l57 c57 k57 (fun _ _ _ _ _ _ us hl => match us, hl with | [_, _], _ => rfl)
  have d58 : Df K mg "_law_root_of" s__law_root_of ["f"] := df_mk X G a58 l58 c58 k58 (fun _ _ _ _ _ _ us hl => match us, hl with | [_], _ => rfl)
  have d59 : Df K mg "_law_told_triangle" s__law_told_triangle ["n", "point"] := df_mk X G a59 l59 c59 k59 (fun _ _ _ _ _ _ us hl => match us, hl with | [_, _], _ => rfl)
  have d60 : Df K mg "_law_told" s__law_told ["question", "point"] := df_mk X G a60 l60 c60 k60 (fun _ _ _ _ _ _ us hl => match us, hl with | [_, _], _ => rfl)
  have d61 : Df K mg "_law_curve" s__law_curve ["question"] := df_mk X G a61 l61 c61 k61 (fun _ _ _ _ _ _ us hl => match us, hl with | [_], _ => rfl)
  have d62 : Df K mg "_law_solves" s__law_solves ["question", "solution"] := df_mk X G a62 l62 c62 k62 (fun _ _ _ _ _ _ us hl => match us, hl with | [_, _], _ => rfl)
  have d63 : Df K mg "_law_sums_right" s__law_sums_right ["m", "question", "first"] := df_mk X G a63 l63 c63 k63 (fun _ _ _ _ _ _ us hl => match us, hl with | [_, _, _], _ => rfl)
  refine law_fd X G hfa a64 l64 c64 k64 (fun _ _ _ _ _ _ us hl => match us, hl with | [_], _ => rfl) (fun fd F base => ?_)
  have c_power := k_power (P := P) (w := w) (base := base) T d2 
  have c_lowest := k_lowest (P := P) (w := w) (base := base) T d3 
  have c_is_below := k_is_below (P := P) (w := w) (base := base) T d13 
  have c_five := k_five (P := P) (w := w) (base := base) T d16 
  have c_amount := k_amount (P := P) (w := w) (base := base) T d23 
  have c_triangle_curve := k_triangle_curve (P := P) (w := w) (base := base) T d24 
  have c_concord_curve := k_concord_curve (P := P) (w := w) (base := base) T d27 
  have c_cubes_curve := k_cubes_curve (P := P) (w := w) (base := base) T d30 
  have c_law_begun := k_law_begun (P := P) (w := w) (base := base) T d35 
  have c_law_draw := k_law_draw (P := P) (w := w) (base := base) T d36 
  have c_law_common := k_law_common (P := P) (w := w) (base := base) T d39 
  have c_law_class := k_law_class (P := P) (w := w) (base := base) T d40 
  have c_law_root := k_law_root (P := P) (w := w) (base := base) T d41 
  have c_law_amount := k_law_amount (P := P) (w := w) (base := base) T d54 
  have c_law_curve := k_law_curve (P := P) (w := w) (base := base) T d61 
  have c_root_of := k_root_of (P := P) (w := w) (base := base) T d4 c_power
  have c_plus := k_plus (P := P) (w := w) (base := base) T d7 c_lowest
  have c_less := k_less (P := P) (w := w) (base := base) T d8 c_lowest
  have c_times := k_times (P := P) (w := w) (base := base) T d9 c_lowest
  have c_over := k_over (P := P) (w := w) (base := base) T d10 c_lowest
  have c_law_of := k_law_of (P := P) (w := w) (base := base) T d37 c_law_draw
  have c_law_cut := k_law_cut (P := P) (w := w) (base := base) T d42 c_law_common
  have c_law_concord := k_law_concord (P := P) (w := w) (base := base) T d56 c_law_draw
  have c_law_root_of := k_law_root_of (P := P) (w := w) (base := base) T d58 c_law_root
  have c_exact_root := k_exact_root (P := P) (w := w) (base := base) T d5 c_root_of c_power
  have c_total := k_total (P := P) (w := w) (base := base) T d11 c_plus
  have c_product := k_product (P := P) (w := w) (base := base) T d12 c_times
  have c_triangle_of := k_triangle_of (P := P) (w := w) (base := base) T d25 c_amount c_times c_over c_is_below c_less c_plus
  have c_triangle_point := k_triangle_point (P := P) (w := w) (base := base) T d26 c_plus c_over c_times
  have c_cubes_of := k_cubes_of (P := P) (w := w) (base := base) T d31 c_times c_over c_plus c_less
  have c_cubes_point := k_cubes_point (P := P) (w := w) (base := base) T d32 c_plus c_over c_times c_less
  have c_law_plus := k_law_plus (P := P) (w := w) (base := base) T d43 c_law_cut
  have c_law_less := k_law_less (P := P) (w := w) (base := base) T d44 c_law_cut
  have c_law_by := k_law_by (P := P) (w := w) (base := base) T d45 c_law_cut
  have c_law_over := k_law_over (P := P) (w := w) (base := base) T d46 c_law_cut
  have c_law_bent := k_law_bent (P := P) (w := w) (base := base) T d49 c_law_cut
  have c_law_triangle := k_law_triangle (P := P) (w := w) (base := base) T d55 c_law_class c_law_draw c_law_cut c_law_root c_law_of
  have c_root_of_fraction := k_root_of_fraction (P := P) (w := w) (base := base) T d14 c_exact_root
  have c_opposite := k_opposite (P := P) (w := w) (base := base) T d18 c_five c_total c_times
  have c_tangent_slope := k_tangent_slope (P := P) (w := w) (base := base) T d19 c_five c_total c_over c_product c_times
  have c_concord_point := k_concord_point (P := P) (w := w) (base := base) T d29 c_times c_product
  have c_law_turned := k_law_turned (P := P) (w := w) (base := base) T d51 c_law_less c_law_bent
  have c_law_point := k_law_point (P := P) (w := w) (base := base) T d57 c_law_plus c_law_over c_law_by c_law_less
  have c_law_told_triangle := k_law_told_triangle (P := P) (w := w) (base := base) T d59 c_law_by c_law_amount c_law_over c_law_less c_law_plus
  have c_law_solves := k_law_solves (P := P) (w := w) (base := base) T d62 c_law_by c_law_plus
  have c_line_of := k_line_of (P := P) (w := w) (base := base) T d20 c_opposite c_tangent_slope c_over c_less c_times
  have c_concord_of := k_concord_of (P := P) (w := w) (base := base) T d28 c_root_of_fraction c_plus
  have c_law_sum := k_law_sum (P := P) (w := w) (base := base) T d52 c_law_less c_law_turned c_law_plus c_law_over c_law_by c_law_bent
  have c_law_told := k_law_told (P := P) (w := w) (base := base) T d60 c_law_told_triangle c_law_by c_law_over c_law_root_of c_law_plus c_law_less
  have c_added := k_added (P := P) (w := w) (base := base) T d21 c_line_of c_five c_total c_opposite c_times c_plus
  have c_sum_of := k_sum_of (P := P) (w := w) (base := base) T d33 c_cubes_curve c_cubes_of c_triangle_curve c_triangle_of c_concord_curve c_concord_of c_added c_cubes_point c_triangle_point c_concord_point
  have c_law_sums_right := k_law_sums_right (P := P) (w := w) (base := base) T d63 c_law_curve c_law_of c_law_sum c_law_told c_law_draw c_law_point c_law_solves c_sum_of
  exact k_law T F c_law_begun c_law_triangle c_law_concord c_law_of c_sum_of c_law_sums_right
end K55
open PySem PySem.W PyProof.Rows
set_option maxRecDepth 100000 in
set_option maxHeartbeats 0 in
theorem PySem.Challenge.cw_pointsum_k55_whole_new_out_of_old_holds : PySem.Challenge.rw_pointsum_k55_whole_new_out_of_old.Holds := by
  w_on; o_law; k_head; (case hw => w_witness2)
  k_fill
  refine Gd.walk_g (l := PySem.Challenge.rw_pointsum_k55_whole_new_out_of_old) (n := 63) (k := 9) (x := "script") (sp := fun K => K55.sp_law K) rfl (by decide) rfl ⟨rfl, by decide, by decide⟩ (fun w h Y => PySem.W.kIn_of Y) ?F (fun K H a ns hl hS => ⟨a, ns, rfl, hS, hl, fun _ => rfl⟩)
  case F =>
    intro w mg fa h KX G hmg
    refine' K55.all_mk KX G hmg ?a2 ?l2 ?c2 ?k2 ?a3 ?l3 ?c3 ?k3 ?a4 ?l4 ?c4 ?k4 ?a5 ?l5 ?c5 ?k5 ?a7 ?l7 ?c7 ?k7 ?a8 ?l8 ?c8 ?k8 ?a9 ?l9 ?c9 ?k9 ?a10 ?l10 ?c10 ?k10 ?a11 ?l11 ?c11 ?k11 ?a12 ?l12 ?c12 ?k12 ?a13 ?l13 ?c13 ?k13 ?a14 ?l14 ?c14 ?k14 ?a16 ?l16 ?c16 ?k16 ?a18 ?l18 ?c18 ?k18 ?a19 ?l19 ?c19 ?k19 ?a20 ?l20 ?c20 ?k20 ?a21 ?l21 ?c21 ?k21 ?a23 ?l23 ?c23 ?k23 ?a24 ?l24 ?c24 ?k24 ?a25 ?l25 ?c25 ?k25 ?a26 ?l26 ?c26 ?k26 ?a27 ?l27 ?c27 ?k27 ?a28 ?l28 ?c28 ?k28 ?a29 ?l29 ?c29 ?k29 ?a30 ?l30 ?c30 ?k30 ?a31 ?l31 ?c31 ?k31 ?a32 ?l32 ?c32 ?k32 ?a33 ?l33 ?c33 ?k33 ?a35 ?l35 ?c35 ?k35 ?a36 ?l36 ?c36 ?k36 ?a37 ?l37 ?c37 ?k37 ?a39 ?l39 ?c39 ?k39 ?a40 ?l40 ?c40 ?k40 ?a41 ?l41 ?c41 ?k41 ?a42 ?l42 ?c42 ?k42 ?a43 ?l43 ?c43 ?k43 ?a44 ?l44 ?c44 ?k44 ?a45 ?l45 ?c45 ?k45 ?a46 ?l46 ?c46 ?k46 ?a49 ?l49 ?c49 ?k49 ?a51 ?l51 ?c51 ?k51 ?a52 ?l52 ?c52 ?k52 ?a54 ?l54 ?c54 ?k54 ?a55 ?l55 ?c55 ?k55 ?a56 ?l56 ?c56 ?k56 ?a57 ?l57 ?c57 ?k57 ?a58 ?l58 ?c58 ?k58 ?a59 ?l59 ?c59 ?k59 ?a60 ?l60 ?c60 ?k60 ?a61 ?l61 ?c61 ?k61 ?a62 ?l62 ?c62 ?k62 ?a63 ?l63 ?c63 ?k63 ?a64 ?l64 ?c64 ?k64 ?z_gcd ?z_isqrt ?z_int ?z_len ?z_tuple ?z_abs ?z_range ?z_repr
    (case a2 => k_is); (case l2 => k_is); (case c2 => k_is); (case k2 => k_is); (case a3 => k_is); (case l3 => k_is); (case c3 => k_is); (case k3 => k_is)
    (case a4 => k_is); (case l4 => k_is); (case c4 => k_is); (case k4 => k_is); (case a5 => k_is); (case l5 => k_is); (case c5 => k_is); (case k5 => k_is)
    (case a7 => k_is); (case l7 => k_is); (case c7 => k_is); (case k7 => k_is); (case a8 => k_is); (case l8 => k_is); (case c8 => k_is); (case k8 => k_is)
    (case a9 => k_is); (case l9 => k_is); (case c9 => k_is); (case k9 => k_is); (case a10 => k_is); (case l10 => k_is); (case c10 => k_is); (case k10 => k_is)
    (case a11 => k_is); (case l11 => k_is); (case c11 => k_is); (case k11 => k_is); (case a12 => k_is); (case l12 => k_is); (case c12 => k_is); (case k12 => k_is)
    (case a13 => k_is); (case l13 => k_is); (case c13 => k_is); (case k13 => k_is); (case a14 => k_is); (case l14 => k_is); (case c14 => k_is); (case k14 => k_is)
    (case a16 => k_is); (case l16 => k_is); (case c16 => k_is); (case k16 => k_is); (case a18 => k_is); (case l18 => k_is); (case c18 => k_is); (case k18 => k_is)
    (case a19 => k_is); (case l19 => k_is); (case c19 => k_is); (case k19 => k_is); (case a20 => k_is); (case l20 => k_is); (case c20 => k_is); (case k20 => k_is)
    (case a21 => k_is); (case l21 => k_is); (case c21 => k_is); (case k21 => k_is); (case a23 => k_is); (case l23 => k_is); (case c23 => k_is); (case k23 => k_is)
    (case a24 => k_is); (case l24 => k_is); (case c24 => k_is); (case k24 => k_is); (case a25 => k_is); (case l25 => k_is); (case c25 => k_is); (case k25 => k_is)
    (case a26 => k_is); (case l26 => k_is); (case c26 => k_is); (case k26 => k_is); (case a27 => k_is); (case l27 => k_is); (case c27 => k_is); (case k27 => k_is)
    (case a28 => k_is); (case l28 => k_is); (case c28 => k_is); (case k28 => k_is); (case a29 => k_is); (case l29 => k_is); (case c29 => k_is); (case k29 => k_is)
    (case a30 => k_is); (case l30 => k_is); (case c30 => k_is); (case k30 => k_is); (case a31 => k_is); (case l31 => k_is); (case c31 => k_is); (case k31 => k_is)
    (case a32 => k_is); (case l32 => k_is); (case c32 => k_is); (case k32 => k_is); (case a33 => k_is); (case l33 => k_is); (case c33 => k_is); (case k33 => k_is)
    (case a35 => k_is); (case l35 => k_is); (case c35 => k_is); (case k35 => k_is); (case a36 => k_is); (case l36 => k_is); (case c36 => k_is); (case k36 => k_is)
    (case a37 => k_is); (case l37 => k_is); (case c37 => k_is); (case k37 => k_is); (case a39 => k_is); (case l39 => k_is); (case c39 => k_is); (case k39 => k_is)
    (case a40 => k_is); (case l40 => k_is); (case c40 => k_is); (case k40 => k_is); (case a41 => k_is); (case l41 => k_is); (case c41 => k_is); (case k41 => k_is)
    (case a42 => k_is); (case l42 => k_is); (case c42 => k_is); (case k42 => k_is); (case a43 => k_is); (case l43 => k_is); (case c43 => k_is); (case k43 => k_is)
    (case a44 => k_is); (case l44 => k_is); (case c44 => k_is); (case k44 => k_is); (case a45 => k_is); (case l45 => k_is); (case c45 => k_is); (case k45 => k_is)
    (case a46 => k_is); (case l46 => k_is); (case c46 => k_is); (case k46 => k_is); (case a49 => k_is); (case l49 => k_is); (case c49 => k_is); (case k49 => k_is)
    (case a51 => k_is); (case l51 => k_is); (case c51 => k_is); (case k51 => k_is); (case a52 => k_is); (case l52 => k_is); (case c52 => k_is); (case k52 => k_is)
    (case a54 => k_is); (case l54 => k_is); (case c54 => k_is); (case k54 => k_is); (case a55 => k_is); (case l55 => k_is); (case c55 => k_is); (case k55 => k_is)
    (case a56 => k_is); (case l56 => k_is); (case c56 => k_is); (case k56 => k_is); (case a57 => k_is); (case l57 => k_is); (case c57 => k_is); (case k57 => k_is)
    (case a58 => k_is); (case l58 => k_is); (case c58 => k_is); (case k58 => k_is); (case a59 => k_is); (case l59 => k_is); (case c59 => k_is); (case k59 => k_is)
    (case a60 => k_is); (case l60 => k_is); (case c60 => k_is); (case k60 => k_is); (case a61 => k_is); (case l61 => k_is); (case c61 => k_is); (case k61 => k_is)
    (case a62 => k_is); (case l62 => k_is); (case c62 => k_is); (case k62 => k_is); (case a63 => k_is); (case l63 => k_is); (case c63 => k_is); (case k63 => k_is)
    (case a64 => k_is); (case l64 => k_is); (case c64 => k_is); (case k64 => k_is); (case z_gcd => k_is); (case z_isqrt => k_is); (case z_int => k_is); (case z_len => k_is)
    (case z_tuple => k_is); (case z_abs => k_is); (case z_range => k_is); (case z_repr => k_is)
