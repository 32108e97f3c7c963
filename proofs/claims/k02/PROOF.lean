import PyProof.Rows.All
import Wide.All
import OpenK.AllK
import Wide.FinOn
import HandS.ForMost
import HandS.Exc
import HandS.ExcOwn
import HandS.TryOnly
import HandS.CallSlots
import HandS.WordsExc
import HandS.Wide
import HandS.Conv
import HandS.Deep
import HandS.ExcInit
import HandS.ExcValue
import KE.KExcInit
import KE.KExcIs
import HandS.TupAny
import HandS.TupMul
import HandS.Style
import HandS.IsInst
import HandS.EndBits
import HandS.Flow
import HandS.Codes
import HandS.Property
import PyProof.InstNe
import KE.KFmtOwn
import KE.KOpsOwn
import HandS.RaiseMore
import HandS.Small
import KE.KCallOwn
import HandS.Defaults
import HandS.MakeKw
import HandS.MakeKwOnly
import HandS.ClsMeth
import HandS.ExcField
import HandS.GenList
import HandS.Comp
import HandS.Dict
import HandS.Iter
import HandS.DictComp
import HandS.ListItems
import KE.KDictList
import HandS.Text
import HandS.StrMore
import PySem.Challenge.RW_showncalls_k02_logs_by_their_form
set_option Elab.async false
set_option linter.all false
set_option maxRecDepth 100000
set_option maxHeartbeats 0
set_option exponentiation.threshold 3000
/-! VS: a def read as a function of plain data. -/
namespace VS
open PySem PySem.Spec PyProof.Rows L2
/-! ### data -/
inductive D where
  | non | bl (b : Bool) | int (i : Int) | str (x : Str) | tup (xs : List D) | lst (xs : List D) | dct (kvs : List (Key × D)) | obj (C : Addr) (fs : List (Str × D)) | scr (ns : List Int) | kls (C : Addr)
  | err (C : Addr) | exn (C : Addr) | exc (C : Addr) (fs : List (Str × D)) | dtk (kvs : List (List Key × D)) | ktu (xs : List D)
def D.isDct : D → Bool
  | .dct _ => true
  | .dtk _ => true
  | _ => false
abbrev Ow := Addr → Prop
/-- what is new is one's own -/
def plus (O : Ow) (p : Addr) : Ow := fun a => O a ∨ a = p
/-- a class of errors: what of the written part it must have -/
structure XOk (K : PySem.W.Frag) (C : Addr) : Prop where
  cl : PySem.W.isClsIn K C = true
  ga : PySem.W.findIn K (.ref C) "__getattribute__" = some (some (.builtin "BaseException.__getattribute__"))
  gt : PySem.W.findIn K (.ref C) "__getattr__" = some none
  sb : PySem.W.subIn K (.ref C) (.type "BaseException") = some true
  ha : PySem.W.findIn K (.ref C) "__class__" = some (some (.builtin "object.__class__"))
  hn : PySem.W.specialIn K (.builtin "object.__class__") "__get__" = some (some (.builtin "getset_descriptor.__get__"))
  tk : PySem.W.takesIn K (.builtin "object.__class__") = some true
  hm : PySem.W.mroIn K C (.type "object") = some true
/-- a tuple of the written part -/
def Kst (K : PySem.W.Frag) (a : Addr) (xs : List V) : Prop := ∃ (o : Obj) (its : Array Value) (n : Nat), K.lookup a = some o ∧ o.cls = .type "tuple" ∧ o.data = .seq its n ∧ its.size ≤ sizeLine ∧ Vals xs its.toList
/-- a tuple that the heap tracks -/
def TpAt (_ : PySem.W.Frag) (O : Ow) (H : Hp) (a : Addr) (xs : List V) : Prop := (¬ O a ∧ H a = some (.tup xs)) ∨ False
theorem TpAt.sq {K : PySem.W.Frag} {O : Ow} {H : Hp} {a : Addr} {xs : List V} (h : TpAt K O H a xs) : SqT K H a xs := h.elim (fun h => .inl (.inl h.2)) False.elim
mutual
def Dt (K : PySem.W.Frag) (O : Ow) (H : Hp) : D → V → Prop
  | .non, v => v = .non
  | .bl b, v => v = .bl b
  | .int i, v => v = .int i
  | .str x, v => v = .str x
  | .tup ds, v => ∃ a xs, v = .ref a ∧ TpAt K O H a xs ∧ DtAll K O H ds xs
  | .lst ds, v => ∃ a xs, v = .ref a ∧ ¬ O a ∧ H a = some (.lst xs) ∧ DtAll K O H ds xs
  | .ktu ds, v => ∃ a xs, v = .ref a ∧ Kst K a xs ∧ DtAll K O H ds xs
  | .dct kvs, v => ∃ a ob es, v = .ref a ∧ ¬ O a ∧ H a = some (.frz ob (.dK es)) ∧ DtKv K O H kvs es
  | .dtk kvs, v => ∃ a ob es, v = .ref a ∧ ¬ O a ∧ H a = some (.frz ob (.dT es)) ∧ DtKt K O H kvs es
  | .obj C fs, v => ∃ a dx es, v = .ref a ∧ ¬ O a ∧ H a = some (.ins C dx es) ∧ DtFs K O H fs es
  | .kls C, v => v = .ref C
  | .err C, v => ∃ a, v = .ref a ∧ XOk K C ∧ ¬ O a ∧ H a = some (ExO (.ref C) a)
  | .exn C, v => ∃ a, v = .ref a ∧ XOk K C ∧ ¬ O a ∧ H a = some (exo a C none)
  | .exc C fs, v => ∃ a dx es, v = .ref a ∧ XOk K C ∧ ¬ O a ∧ ¬ O dx ∧ H a = some (exo a C (some dx)) ∧ H dx = some (exd dx es) ∧ DtFs K (plus O dx) H fs es
  | .scr ns, v => ∃ a, v = .ref a ∧ ((¬ O a ∧ ∃ o, H a = some (.frz o (.lst (ns.map V.int)))) ∨ ∃ (o : Obj) (its : Array Value) (n : Nat), K.lookup a = some o ∧ o.cls = .type "list" ∧ o.dict = none ∧ o.data = .seq its n ∧ its.size ≤ sizeLine ∧ Vals (ns.map V.int) its.toList)
def DtAll (K : PySem.W.Frag) (O : Ow) (H : Hp) : List D → List V → Prop
  | [], xs => xs = []
  | d :: ds, xs => ∃ x r, xs = x :: r ∧ Dt K O H d x ∧ DtAll K O H ds r
def DtKv (K : PySem.W.Frag) (O : Ow) (H : Hp) : List (Key × D) → List (Key × V) → Prop
  | [], xs => xs = []
  | (k, d) :: ds, xs => ∃ x r, xs = (k, x) :: r ∧ Dt K O H d x ∧ DtKv K O H ds r
def DtKt (K : PySem.W.Frag) (O : Ow) (H : Hp) : List (List Key × D) → List (List Key × V) → Prop
  | [], xs => xs = []
  | (k, d) :: ds, xs => ∃ x r, xs = (k, x) :: r ∧ Dt K O H d x ∧ DtKt K O H ds r
def DtFs (K : PySem.W.Frag) (O : Ow) (H : Hp) : List (Str × D) → List (Str × V) → Prop
  | [], xs => xs = []
  | (k, d) :: ds, xs => ∃ x r, xs = (k, x) :: r ∧ Dt K O H d x ∧ DtFs K O H ds r
end
/-- what may be mutated: at a, its contents -/
def Own (K : PySem.W.Frag) (O : Ow) (H : Hp) : D → Addr → Prop
  | .lst ds, a => ∃ xs, H a = some (.lst xs) ∧ DtAll K O H ds xs
  | .dct kvs, a => ∃ es, H a = some (.dK es) ∧ DtKv K O H kvs es
  | .dtk kvs, a => ∃ es, H a = some (.dT es) ∧ DtKt K O H kvs es
  | .obj C fs, a => ∃ dx es, H a = some (.ins C dx es) ∧ DtFs K O H fs es
  | .exn C, a => XOk K C ∧ H a = some (exo a C none)
  | .exc C fs, a => ∃ dx es, XOk K C ∧ ¬ O dx ∧ H a = some (exo a C (some dx)) ∧ H dx = some (exd dx es) ∧ DtFs K (plus O dx) H fs es
  | _, _ => False
/-- to be looked at only -/
def Lk (K : PySem.W.Frag) (O : Ow) (H : Hp) : D → V → Prop
  | .lst ds, v => ∃ a xs, v = .ref a ∧ H a = some (.lst xs) ∧ DtAll K O H ds xs
  | .dct kvs, v => ∃ a es, v = .ref a ∧ Rd H a (.dK es) ∧ DtKv K O H kvs es
  | .dtk kvs, v => ∃ a es, v = .ref a ∧ Rd H a (.dT es) ∧ DtKt K O H kvs es
  | .obj C fs, v => ∃ a dx es, v = .ref a ∧ H a = some (.ins C dx es) ∧ DtFs K O H fs es
  | .exn C, v => ∃ a, v = .ref a ∧ XOk K C ∧ H a = some (exo a C none)
  | .exc C fs, v => ∃ a dx es, v = .ref a ∧ XOk K C ∧ ¬ O dx ∧ H a = some (exo a C (some dx)) ∧ H dx = some (exd dx es) ∧ DtFs K (plus O dx) H fs es
  | d, v => Dt K O H d v
structure Stp (O : Ow) (H : Hp) (O' : Ow) (H' : Hp) : Prop where
  kp : ∀ b o, ¬ O b → H b = some o → H' b = some o
  ow : ∀ b, O' b → O b ∨ H b = none
theorem Stp.refl {O : Ow} {H : Hp} : Stp O H O H := ⟨fun _ _ _ h => h, fun _ h => .inl h⟩
theorem Stp.trans {O O1 O2 : Ow} {H H1 H2 : Hp} (a : Stp O H O1 H1) (b : Stp O1 H1 O2 H2) : Stp O H O2 H2 where
  kp := fun c o n e => b.kp c o (fun z => (a.ow c z).elim n fun q => by rw [q] at e; cases e) (a.kp c o n e)
  ow := fun c z => by
    rcases b.ow c z with q | q
    · exact a.ow c q
    · by_cases n : O c
      · exact .inl n
      · cases e : H c with
        | none => exact .inr rfl
        | some o => rw [a.kp c o n e] at q; cases q
theorem Stp.keep {O O' : Ow} {H H' : Hp} {a : Addr} {o : HO} (s : Stp O H O' H') (n : ¬ O a) (h : H a = some o) : ¬ O' a ∧ H' a = some o :=
  ⟨fun z => (s.ow a z).elim n fun q => (by rw [q] at h; cases h), s.kp a o n h⟩
theorem Stp.rd {O O' : Ow} {H H' : Hp} {a : Addr} {o : HO} (s : Stp O H O' H') (n : ¬ O a) (h : Rd H a o) : ¬ O' a ∧ Rd H' a o := by
  rcases h with h | ⟨u, h⟩
  · exact ⟨(s.keep n h).1, .inl (s.keep n h).2⟩
  · exact ⟨(s.keep n h).1, .inr ⟨u, (s.keep n h).2⟩⟩
theorem TpAt.step {K : PySem.W.Frag} {O O' : Ow} {H H' : Hp} {a : Addr} {xs : List V} (s : Stp O H O' H') (h : TpAt K O H a xs) : TpAt K O' H' a xs := h.elim (fun h => .inl (s.keep h.1 h.2)) False.elim
theorem Stp.plus {O O' : Ow} {H H' : Hp} {p : Addr} (s : Stp O H O' H') : Stp (plus O p) H (plus O' p) H' :=
  ⟨fun b o n e => s.kp b o (fun z => n (.inl z)) e, fun b z => z.elim (fun z => (s.ow b z).imp .inl id) fun z => .inl (.inr z)⟩
mutual
theorem Dt.step {K : PySem.W.Frag} {O O' : Ow} {H H' : Hp} (s : Stp O H O' H') : ∀ (d : D) (v : V), Dt K O H d v → Dt K O' H' d v
  | .non, _, h => by unfold Dt at h ⊢; exact h
  | .bl _, _, h => by unfold Dt at h ⊢; exact h
  | .int _, _, h => by unfold Dt at h ⊢; exact h
  | .str _, _, h => by unfold Dt at h ⊢; exact h
  | .tup ds, _, h => by
    unfold Dt at h ⊢
    obtain ⟨a, xs, e, r, q⟩ := h
    exact ⟨a, xs, e, r.step s, DtAll.step s ds xs q⟩
  | .ktu ds, _, h => by
    unfold Dt at h ⊢
    obtain ⟨a, xs, e, r, q⟩ := h
    exact ⟨a, xs, e, r, DtAll.step s ds xs q⟩
  | .lst ds, _, h => by
    unfold Dt at h ⊢
    obtain ⟨a, xs, e, n, r, q⟩ := h
    exact ⟨a, xs, e, (s.keep n r).1, (s.keep n r).2, DtAll.step s ds xs q⟩
  | .dct ds, _, h => by
    unfold Dt at h ⊢
    obtain ⟨a, ob, xs, e, n, r, q⟩ := h
    exact ⟨a, ob, xs, e, (s.keep n r).1, (s.keep n r).2, DtKv.step s ds xs q⟩
  | .dtk ds, _, h => by
    unfold Dt at h ⊢
    obtain ⟨a, ob, xs, e, n, r, q⟩ := h
    exact ⟨a, ob, xs, e, (s.keep n r).1, (s.keep n r).2, DtKt.step s ds xs q⟩
  | .obj C ds, _, h => by
    unfold Dt at h ⊢
    obtain ⟨a, dx, xs, e, n, r, q⟩ := h
    exact ⟨a, dx, xs, e, (s.keep n r).1, (s.keep n r).2, DtFs.step s ds xs q⟩
  | .kls _, _, h => by unfold Dt at h ⊢; exact h
  | .err C, _, h => by
    unfold Dt at h ⊢
    obtain ⟨a, e, x, n, r⟩ := h
    exact ⟨a, e, x, (s.keep n r).1, (s.keep n r).2⟩
  | .exn C, _, h => by
    unfold Dt at h ⊢
    obtain ⟨a, e, x, n, r⟩ := h
    exact ⟨a, e, x, (s.keep n r).1, (s.keep n r).2⟩
  | .exc C fs, _, h => by
    unfold Dt at h ⊢
    obtain ⟨a, dx, es, e, x, n, n2, r, r2, q⟩ := h
    exact ⟨a, dx, es, e, x, (s.keep n r).1, (s.keep n2 r2).1, (s.keep n r).2, (s.keep n2 r2).2, DtFs.step s.plus fs es q⟩
  | .scr ns, _, h => by
    unfold Dt at h ⊢
    obtain ⟨a, e, h⟩ := h
    refine ⟨a, e, ?_⟩
    rcases h with ⟨n, o, r⟩ | h
    · exact .inl ⟨(s.keep n r).1, o, (s.keep n r).2⟩
    · exact .inr h
theorem DtAll.step {K : PySem.W.Frag} {O O' : Ow} {H H' : Hp} (s : Stp O H O' H') : ∀ (ds : List D) (xs : List V), DtAll K O H ds xs → DtAll K O' H' ds xs
  | [], _, h => by unfold DtAll at h ⊢; exact h
  | d :: ds, _, h => by
    unfold DtAll at h ⊢
    obtain ⟨x, r, e, h1, h2⟩ := h
    exact ⟨x, r, e, Dt.step s d x h1, DtAll.step s ds r h2⟩
theorem DtKv.step {K : PySem.W.Frag} {O O' : Ow} {H H' : Hp} (s : Stp O H O' H') : ∀ (ds : List (Key × D)) (xs : List (Key × V)), DtKv K O H ds xs → DtKv K O' H' ds xs
  | [], _, h => by unfold DtKv at h ⊢; exact h
  | (k, d) :: ds, _, h => by
    unfold DtKv at h ⊢
    obtain ⟨x, r, e, h1, h2⟩ := h
    exact ⟨x, r, e, Dt.step s d x h1, DtKv.step s ds r h2⟩
theorem DtKt.step {K : PySem.W.Frag} {O O' : Ow} {H H' : Hp} (s : Stp O H O' H') : ∀ (ds : List (List Key × D)) (xs : List (List Key × V)), DtKt K O H ds xs → DtKt K O' H' ds xs
  | [], _, h => by unfold DtKt at h ⊢; exact h
  | (k, d) :: ds, _, h => by
    unfold DtKt at h ⊢
    obtain ⟨x, r, e, h1, h2⟩ := h
    exact ⟨x, r, e, Dt.step s d x h1, DtKt.step s ds r h2⟩
theorem DtFs.step {K : PySem.W.Frag} {O O' : Ow} {H H' : Hp} (s : Stp O H O' H') : ∀ (ds : List (Str × D)) (xs : List (Str × V)), DtFs K O H ds xs → DtFs K O' H' ds xs
  | [], _, h => by unfold DtFs at h ⊢; exact h
  | (k, d) :: ds, _, h => by
    unfold DtFs at h ⊢
    obtain ⟨x, r, e, h1, h2⟩ := h
    exact ⟨x, r, e, Dt.step s d x h1, DtFs.step s ds r h2⟩
end
theorem Dt.lk {K : PySem.W.Frag} {O : Ow} {H : Hp} : ∀ {d : D} {v : V}, Dt K O H d v → Lk K O H d v := fun {d v} h => by
  cases d with
  | lst ds => unfold Dt at h; obtain ⟨a, xs, e, n, r, q⟩ := h; exact ⟨a, xs, e, r, q⟩
  | dct ds => unfold Dt at h; obtain ⟨a, ob, xs, e, n, r, q⟩ := h; exact ⟨a, xs, e, .inr ⟨ob, r⟩, q⟩
  | dtk ds => unfold Dt at h; obtain ⟨a, ob, xs, e, n, r, q⟩ := h; exact ⟨a, xs, e, .inr ⟨ob, r⟩, q⟩
  | obj C ds => unfold Dt at h; obtain ⟨a, dx, xs, e, n, r, q⟩ := h; exact ⟨a, dx, xs, e, r, q⟩
  | exn C => unfold Dt at h; obtain ⟨a, e, x, n, r⟩ := h; exact ⟨a, e, x, r⟩
  | exc C ds => unfold Dt at h; obtain ⟨a, dx, es, e, x, n, n2, r, r2, q⟩ := h; exact ⟨a, dx, es, e, x, n2, r, r2, q⟩
  | _ => exact h
theorem Own.lk {K : PySem.W.Frag} {O : Ow} {H : Hp} {d : D} {a : Addr} (h : Own K O H d a) : Lk K O H d (.ref a) := by
  cases d with
  | lst ds => obtain ⟨xs, r, q⟩ := h; exact ⟨a, xs, rfl, r, q⟩
  | dct ds => obtain ⟨xs, r, q⟩ := h; exact ⟨a, xs, rfl, .inl r, q⟩
  | dtk ds => obtain ⟨xs, r, q⟩ := h; exact ⟨a, xs, rfl, .inl r, q⟩
  | obj C ds => obtain ⟨dx, xs, r, q⟩ := h; exact ⟨a, dx, xs, rfl, r, q⟩
  | exn C => exact ⟨a, rfl, h.1, h.2⟩
  | exc C ds => obtain ⟨dx, es, x, n, r, r2, q⟩ := h; exact ⟨a, dx, es, rfl, x, n, r, r2, q⟩
  | _ => exact h.elim
theorem Own.dt {K : PySem.W.Frag} {O : Ow} {H : Hp} {d : D} {a : Addr} (h : Own K O H d a) (n : ¬ O a) (hd : d.isDct = false) : Dt K O H d (.ref a) := by
  cases d with
  | lst ds => obtain ⟨xs, r, q⟩ := h; unfold Dt; exact ⟨a, xs, rfl, n, r, q⟩
  | dct ds => cases hd
  | dtk ds => cases hd
  | obj C ds => obtain ⟨dx, xs, r, q⟩ := h; unfold Dt; exact ⟨a, dx, xs, rfl, n, r, q⟩
  | exn C => unfold Dt; exact ⟨a, rfl, h.1, n, h.2⟩
  | exc C ds => obtain ⟨dx, es, x, n2, r, r2, q⟩ := h; unfold Dt; exact ⟨a, dx, es, rfl, x, n, n2, r, r2, q⟩
  | _ => exact h.elim
theorem Own.step {K : PySem.W.Frag} {O O' : Ow} {H H' : Hp} {d : D} {a : Addr} (s : Stp O H O' H') (e : H' a = H a) (h : Own K O H d a) : Own K O' H' d a := by
  cases d with
  | lst ds => obtain ⟨xs, r, q⟩ := h; exact ⟨xs, e.trans r, q.step s⟩
  | dct ds => obtain ⟨xs, r, q⟩ := h; exact ⟨xs, e.trans r, q.step s⟩
  | dtk ds => obtain ⟨xs, r, q⟩ := h; exact ⟨xs, e.trans r, DtKt.step s _ _ q⟩
  | obj C ds => obtain ⟨dx, xs, r, q⟩ := h; exact ⟨dx, xs, e.trans r, q.step s⟩
  | exn C => exact ⟨h.1, e.trans h.2⟩
  | exc C ds => obtain ⟨dx, es, x, n, r, r2, q⟩ := h; exact ⟨dx, es, x, (s.keep n r2).1, e.trans r, (s.keep n r2).2, q.step s.plus⟩
  | _ => exact h.elim
theorem Own.some {K : PySem.W.Frag} {O : Ow} {H : Hp} {d : D} {a : Addr} (h : Own K O H d a) : ∃ o, H a = some o := by
  cases d with
  | lst ds => obtain ⟨xs, r, q⟩ := h; exact ⟨_, r⟩
  | dct ds => obtain ⟨xs, r, q⟩ := h; exact ⟨_, r⟩
  | dtk ds => obtain ⟨xs, r, q⟩ := h; exact ⟨_, r⟩
  | obj C ds => obtain ⟨dx, xs, r, q⟩ := h; exact ⟨_, r⟩
  | exn C => exact ⟨_, h.2⟩
  | exc C ds => obtain ⟨dx, es, x, n, r, r2, q⟩ := h; exact ⟨_, r⟩
  | _ => exact h.elim
/-- less is owned -/
theorem Stp.less {O O' : Ow} {H : Hp} (h : ∀ a, O' a → O a) : Stp O H O' H := ⟨fun _ _ _ e => e, fun a z => .inl (h a z)⟩
/-- the heap grows -/
def Ext (H H' : Hp) : Prop := ∀ b o, H b = some o → H' b = some o
theorem Ext.refl {H : Hp} : Ext H H := fun _ _ h => h
theorem Ext.new {H : Hp} {p : Addr} {o : HO} (h : H p = none) : Ext H (upd H p o) := fun a u e => by rw [upd_ne (ne_of_none e h)]; exact e
theorem Ext.stp {O : Ow} {H H' : Hp} (e : Ext H H') : Stp O H O H' := ⟨fun b o _ h => e b o h, fun _ z => .inl z⟩
/-! ### a def's frame -/
inductive Sl where
  | no | dat (d : D) | own (d : D) | iox (j : Nat) (d : D)
abbrev Sl.io (d : D) : Sl := .iox 0 d
def Sl.mine : Sl → Prop
  | .own _ => True
  | .iox _ _ => True
  | _ => False
structure Fx where
  H0 : Hp
  Oc : Ow
  ai : List Addr
  pr : Addr → Option HO
def SlOk (K : PySem.W.Frag) (φ : Fx) (O : Ow) (H : Hp) : Sl → Option (Option V) → Prop
  | .no, _ => True
  | .dat d, x => ∃ v, x = some (some v) ∧ Dt K O H d v
  | .own d, x => ∃ a, x = some (some (.ref a)) ∧ O a ∧ φ.H0 a = none ∧ Own K O H d a
  | .iox j d, x => ∃ a, φ.ai[j]? = some a ∧ x = some (some (.ref a)) ∧ O a ∧ Own K O H d a
/-- no slot that is one's own stands at p -/
def NoSlot (p : Addr) (ρ : List Sl) (σ : L2.St) : Prop := ∀ (i : Nat) (s : Sl), ρ[i]? = some s → s.mine → σ[i]? ≠ some (some (.ref p))
structure Fm (K : PySem.W.Frag) (φ : Fx) (O : Ow) (ρ : List Sl) (σ : L2.St) (H : Hp) : Prop where
  len : ρ.length = σ.length
  here : ∀ a, O a → ∃ o, H a = some o
  oc : ∀ a, φ.Oc a → O a
  ocs : ∀ a, φ.Oc a → ∃ o, φ.H0 a = some o
  aoc : ∀ a, a ∈ φ.ai → φ.Oc a
  kept : ∀ b o, b ∉ φ.ai → φ.H0 b = some o → H b = some o
  slot : ∀ (i : Nat) s, ρ[i]? = some s → SlOk K φ O H s σ[i]?
  uniq : ∀ (i j : Nat) s t, i ≠ j → ρ[i]? = some s → ρ[j]? = some t → s.mine → t.mine → σ[i]? ≠ σ[j]?
  prot : ∀ b o, φ.pr b = some o → O b ∧ H b = some o ∧ NoSlot b ρ σ
theorem SlOk.step {K : PySem.W.Frag} {φ : Fx} {O O' : Ow} {H H' : Hp} {s : Sl} {x : Option (Option V)} (st : Stp O H O' H') (h : SlOk K φ O H s x) (hm : s.mine → ∀ a, x = some (some (.ref a)) → O' a ∧ H' a = H a) : SlOk K φ O' H' s x := by
  cases s with
  | no => trivial
  | dat d => obtain ⟨v, e, q⟩ := h; exact ⟨v, e, q.step st⟩
  | own d => obtain ⟨a, e, o, n, q⟩ := h; exact ⟨a, e, (hm trivial a e).1, n, q.step st (hm trivial a e).2⟩
  | iox j0 d => obtain ⟨a, e0, e, o, q⟩ := h; exact ⟨a, e0, e, (hm trivial a e).1, q.step st (hm trivial a e).2⟩
section
variable {K : PySem.W.Frag} {φ : Fx} {O : Ow} {ρ : List Sl} {σ : L2.St} {H H' : Hp}
theorem Fm.ext (f : Fm K φ O ρ σ H) (e : Ext H H') : Fm K φ O ρ σ H' :=
  ⟨f.len, fun a h => (f.here a h).imp fun o q => e _ _ q, f.oc, f.ocs, f.aoc, fun b o h q => e _ _ (f.kept b o h q), fun i s h => (f.slot i s h).step e.stp fun m a ha => by
    have q := f.slot i s h
    cases s with
    | own d =>
      obtain ⟨a', e', o, n, q⟩ := q
      rw [ha] at e'; cases e'
      obtain ⟨u, hu⟩ := f.here a o
      exact ⟨o, (e _ _ hu).trans hu.symm⟩
    | iox j0 d =>
      obtain ⟨a', e0, e', o, q⟩ := q
      rw [ha] at e'; cases e'
      obtain ⟨u, hu⟩ := f.here a o
      exact ⟨o, (e _ _ hu).trans hu.symm⟩
    | no => exact m.elim
    | dat d => exact m.elim, f.uniq, fun b o h => ⟨(f.prot b o h).1, e _ _ (f.prot b o h).2.1, (f.prot b o h).2.2⟩⟩
theorem NoSlot.put {b : Addr} {i : Nat} {t : Sl} {x : Option V} (h : NoSlot b ρ σ) (hx : t.mine → x ≠ some (.ref b)) : NoSlot b (ρ.set i t) (σ.set i x) := fun j s e m z => by
  by_cases hj : i = j
  · subst hj
    have hr : i < ρ.length := by
      have q := (List.getElem?_eq_some_iff.mp e).1
      rw [List.length_set] at q; exact q
    have hs : i < σ.length := by
      have q := (List.getElem?_eq_some_iff.mp z).1
      rw [List.length_set] at q; exact q
    rw [List.getElem?_set_self hr] at e
    rw [List.getElem?_set_self hs] at z
    cases e
    exact hx m (Option.some.inj z)
  · rw [List.getElem?_set_ne hj] at e z
    exact h j s e m z
theorem NoSlot.chg {b : Addr} {i : Nat} {s t : Sl} (h : NoSlot b ρ σ) (e0 : ρ[i]? = some s) (m0 : t.mine → s.mine) : NoSlot b (ρ.set i t) σ := fun j u e m z => by
  by_cases hj : i = j
  · subst hj
    have hr : i < ρ.length := (List.getElem?_eq_some_iff.mp e0).1
    rw [List.getElem?_set_self hr] at e
    cases e
    exact h i s e0 (m0 m) z
  · rw [List.getElem?_set_ne hj] at e
    exact h j u e m z
/-- a slot that is not one's own is stored -/
theorem Fm.put {i : Nat} {d : D} {v : V} (f : Fm K φ O ρ σ H) (h : Dt K O H d v) : Fm K φ O (ρ.set i (.dat d)) (σ.set i (some v)) H := by
  refine ⟨by rw [List.length_set, List.length_set, f.len], f.here, f.oc, f.ocs, f.aoc, f.kept, fun j s e => ?_, fun j k s t n e1 e2 m1 m2 => ?_, fun b o h => ⟨(f.prot b o h).1, (f.prot b o h).2.1, (f.prot b o h).2.2.put fun m => m.elim⟩⟩
  · by_cases hj : i = j
    · subst hj
      by_cases hl : i < ρ.length
      · rw [List.getElem?_set_self hl] at e
        cases e
        rw [List.getElem?_set_self (by rw [← f.len]; exact hl)]
        exact ⟨v, rfl, h⟩
      · rw [List.getElem?_eq_none (by simpa using hl)] at e; cases e
    · rw [List.getElem?_set_ne hj] at e ⊢
      exact f.slot j s e
  · have h1 : i ≠ j := fun z => by
      subst z
      rw [List.getElem?_set] at e1
      split at e1
      · split at e1
        · cases e1; exact m1
        · cases e1
      · exact absurd rfl ‹_›
    have h2 : i ≠ k := fun z => by
      subst z
      rw [List.getElem?_set] at e2
      split at e2
      · split at e2
        · cases e2; exact m2
        · cases e2
      · exact absurd rfl ‹_›
    rw [List.getElem?_set_ne h1] at e1 ⊢
    rw [List.getElem?_set_ne h2] at e2 ⊢
    exact f.uniq j k s t n e1 e2 m1 m2
theorem Fm.putOwn {i : Nat} {d : D} {p : Addr} (f : Fm K φ O ρ σ H) (h : Own K O H d p) (o : O p) (n0 : φ.H0 p = none) (ns : NoSlot p ρ σ) (pn : φ.pr p = none) : Fm K φ O (ρ.set i (.own d)) (σ.set i (some (.ref p))) H := by
  refine ⟨by rw [List.length_set, List.length_set, f.len], f.here, f.oc, f.ocs, f.aoc, f.kept, fun j s e => ?_, fun j k s t n e1 e2 m1 m2 => ?_, fun b o h => ⟨(f.prot b o h).1, (f.prot b o h).2.1, (f.prot b o h).2.2.put fun _ z => by cases z; rw [pn] at h; cases h⟩⟩
  · by_cases hj : i = j
    · subst hj
      by_cases hl : i < ρ.length
      · rw [List.getElem?_set_self hl] at e
        cases e
        rw [List.getElem?_set_self (by rw [← f.len]; exact hl)]
        exact ⟨p, rfl, o, n0, h⟩
      · rw [List.getElem?_eq_none (by simpa using hl)] at e; cases e
    · rw [List.getElem?_set_ne hj] at e ⊢
      exact f.slot j s e
  · by_cases h1 : i = j
    · subst h1
      have hl : i < σ.length := by
        have := (List.getElem?_eq_some_iff.mp e1).1
        rw [List.length_set, f.len] at this; exact this
      rw [List.getElem?_set_self hl, List.getElem?_set_ne n]
      rw [List.getElem?_set_ne n] at e2
      exact fun z => ns k t e2 m2 z.symm
    · by_cases h2 : i = k
      · subst h2
        have hl : i < σ.length := by
          have := (List.getElem?_eq_some_iff.mp e2).1
          rw [List.length_set, f.len] at this; exact this
        rw [List.getElem?_set_self hl, List.getElem?_set_ne h1]
        rw [List.getElem?_set_ne h1] at e1
        exact fun z => ns j s e1 m1 z
      · rw [List.getElem?_set_ne h1] at e1 ⊢
        rw [List.getElem?_set_ne h2] at e2 ⊢
        exact f.uniq j k s t n e1 e2 m1 m2
/-- a slot is forgotten -/
theorem Fm.wipe1 {i : Nat} {x : Option V} (f : Fm K φ O ρ σ H) : Fm K φ O (ρ.set i .no) (σ.set i x) H := by
  refine ⟨by rw [List.length_set, List.length_set, f.len], f.here, f.oc, f.ocs, f.aoc, f.kept, fun j s e => ?_, fun j k s t n e1 e2 m1 m2 => ?_, fun b o h => ⟨(f.prot b o h).1, (f.prot b o h).2.1, (f.prot b o h).2.2.put fun m => m.elim⟩⟩
  · by_cases hj : i = j
    · subst hj
      by_cases hl : i < ρ.length
      · rw [List.getElem?_set_self hl] at e
        cases e
        trivial
      · rw [List.getElem?_eq_none (by simpa using hl)] at e; cases e
    · rw [List.getElem?_set_ne hj] at e ⊢
      exact f.slot j s e
  · have h1 : i ≠ j := fun z => by
      subst z
      rw [List.getElem?_set] at e1
      split at e1
      · split at e1
        · cases e1; exact m1
        · cases e1
      · exact absurd rfl ‹_›
    have h2 : i ≠ k := fun z => by
      subst z
      rw [List.getElem?_set] at e2
      split at e2
      · split at e2
        · cases e2; exact m2
        · cases e2
      · exact absurd rfl ‹_›
    rw [List.getElem?_set_ne h1] at e1 ⊢
    rw [List.getElem?_set_ne h2] at e2 ⊢
    exact f.uniq j k s t n e1 e2 m1 m2
def less (O : Ow) (p : Addr) : Ow := fun a => O a ∧ a ≠ p
theorem stp_new {O : Ow} {H : Hp} {p : Addr} {o : HO} (h : H p = none) : Stp O H (plus O p) (upd H p o) :=
  ⟨fun b u _ e => Ext.new h b u e, fun b z => z.elim .inl fun e => .inr (e ▸ h)⟩
theorem Fm.h0 (f : Fm K φ O ρ σ H) {p : Addr} (h : H p = none) : φ.H0 p = none := by
  cases e : φ.H0 p with
  | none => rfl
  | some o =>
    by_cases z : p ∈ φ.ai
    · obtain ⟨u, hu⟩ := f.here p (f.oc _ (f.aoc _ z))
      rw [h] at hu; cases hu
    · rw [f.kept p o z e] at h; cases h
theorem Fm.pr0 (f : Fm K φ O ρ σ H) {p : Addr} (h : H p = none) : φ.pr p = none := by
  cases e : φ.pr p with
  | none => rfl
  | some o => have z := (f.prot p o e).2.1; rw [h] at z; cases z
theorem Fm.noslot (f : Fm K φ O ρ σ H) {p : Addr} (h : H p = none) : NoSlot p ρ σ := fun i s e m z => by
  have q := f.slot i s e
  have fin : ∀ a, O a → σ[i]? = some (some (.ref a)) → False := fun a o e' => by
    rw [z] at e'; cases e'
    obtain ⟨u, hu⟩ := f.here p o
    rw [h] at hu; cases hu
  cases s with
  | own d => obtain ⟨a, e', o, n, q⟩ := q; exact fin a o e'
  | iox j0 d => obtain ⟨a, e0, e', o, q⟩ := q; exact fin a o e'
  | no => exact m.elim
  | dat d => exact m.elim
theorem Fm.new {p : Addr} {o : HO} (f : Fm K φ O ρ σ H) (h : H p = none) : Fm K φ (plus O p) ρ σ (upd H p o) := by
  refine ⟨f.len, fun a z => ?_, fun a z => .inl (f.oc a z), f.ocs, f.aoc, fun b u z e => Ext.new h b u (f.kept b u z e), fun i s e => ?_, f.uniq, fun b u z => ⟨.inl (f.prot b u z).1, Ext.new h b u (f.prot b u z).2.1, (f.prot b u z).2.2⟩⟩
  · rcases z with z | z
    · exact (f.here a z).imp fun u q => Ext.new h _ _ q
    · subst z; exact ⟨_, upd_same⟩
  · refine (f.slot i s e).step (stp_new h) fun m a ha => ?_
    have ne : a ≠ p := fun z => f.noslot h i s e m (z ▸ ha)
    have q := f.slot i s e
    have go : ∀ a', O a' → σ[i]? = some (some (.ref a')) → O a := fun a' o' e' => by rw [ha] at e'; cases e'; exact o'
    cases s with
    | own d => obtain ⟨a', e', o', n, q⟩ := q; exact ⟨.inl (go a' o' e'), upd_ne ne⟩
    | iox j0 d => obtain ⟨a', e0, e', o', q⟩ := q; exact ⟨.inl (go a' o' e'), upd_ne ne⟩
    | no => exact m.elim
    | dat d => exact m.elim
/-- what is not in a slot of one's own is no more one's own -/
theorem Fm.drop {p : Addr} (f : Fm K φ O ρ σ H) (n0 : φ.H0 p = none) (ns : NoSlot p ρ σ) (pn : φ.pr p = none) : Fm K φ (less O p) ρ σ H := by
  refine ⟨f.len, fun a z => f.here a z.1, fun a z => ⟨f.oc a z, fun e => ?_⟩, f.ocs, f.aoc, f.kept, fun i s e => ?_, f.uniq, fun b o h => ⟨⟨(f.prot b o h).1, fun z => (by subst z; rw [pn] at h; cases h)⟩, (f.prot b o h).2⟩⟩
  · subst e
    obtain ⟨o, h⟩ := f.ocs _ z
    rw [n0] at h; cases h
  · refine (f.slot i s e).step (Stp.less fun a z => z.1) fun m a ha => ⟨?_, rfl⟩
    have q := f.slot i s e
    have go : ∀ a', O a' → σ[i]? = some (some (.ref a')) → O a := fun a' o' e' => by rw [ha] at e'; cases e'; exact o'
    have ne : a ≠ p := fun z => ns i s e m (z ▸ ha)
    cases s with
    | own d => obtain ⟨a', e', o', n, q⟩ := q; exact ⟨go a' o' e', ne⟩
    | iox j0 d => obtain ⟨a', e0, e', o', q⟩ := q; exact ⟨go a' o' e', ne⟩
    | no => exact m.elim
    | dat d => exact m.elim
/-- .. and it may become another thing -/
theorem Fm.dropU {p : Addr} (f : Fm K φ O ρ σ H) (n0 : φ.H0 p = none) (ns : NoSlot p ρ σ) (pn : φ.pr p = none) (kp : ∀ b o, b ≠ p → H b = some o → H' b = some o) (op : O p) : Fm K φ (less O p) ρ σ H' ∧ Stp O H (less O p) H' := by
  have st : Stp O H (less O p) H' := ⟨fun b o n e => kp b o (fun z => n (by rw [z]; exact op)) e, fun b z => .inl z.1⟩
  refine ⟨⟨f.len, fun a z => ?_, fun a z => ⟨f.oc a z, fun e => ?_⟩, f.ocs, f.aoc, fun b o z e => ?_, fun i s e => ?_, f.uniq, fun b o h => ⟨⟨(f.prot b o h).1, fun z => (by subst z; rw [pn] at h; cases h)⟩, kp b o (fun z => (by subst z; rw [pn] at h; cases h)) (f.prot b o h).2.1, (f.prot b o h).2.2⟩⟩, st⟩
  · obtain ⟨o, h⟩ := f.here a z.1
    exact ⟨o, kp a o z.2 h⟩
  · subst e
    obtain ⟨o, h⟩ := f.ocs _ z
    rw [n0] at h; cases h
  · refine kp b o (fun w => ?_) (f.kept b o z e)
    subst w
    rw [n0] at e; cases e
  · refine (f.slot i s e).step st fun m a ha => ?_
    have q := f.slot i s e
    have go : ∀ a', O a' → σ[i]? = some (some (.ref a')) → O a := fun a' o' e' => by rw [ha] at e'; cases e'; exact o'
    have ne : a ≠ p := fun z => ns i s e m (z ▸ ha)
    have oa : O a := by
      cases s with
      | own d => obtain ⟨a', e', o', n, q⟩ := q; exact go a' o' e'
      | iox j0 d => obtain ⟨a', e0, e', o', q⟩ := q; exact go a' o' e'
      | no => exact m.elim
      | dat d => exact m.elim
    obtain ⟨o, h⟩ := f.here a oa
    exact ⟨⟨oa, ne⟩, (kp a o ne h).trans h.symm⟩
theorem stp_less {p : Addr} : Stp O H (less O p) H := Stp.less fun a z => z.1
/-- an own slot becomes a plain datum -/
theorem Fm.freeze {i : Nat} {d : D} {p : Addr} (f : Fm K φ O ρ σ H) (hd : d.isDct = false) (e : ρ[i]? = some (.own d)) (es : σ[i]? = some (some (.ref p))) : Fm K φ (less O p) (ρ.set i (.dat d)) σ H ∧ Dt K (less O p) H d (.ref p) := by
  obtain ⟨a, e', o, n0, q⟩ := f.slot i _ e
  rw [es] at e'; cases e'
  have hw : Fm K φ O (ρ.set i .no) (σ.set i (some (.ref p))) H := f.wipe1
  have ns : NoSlot p (ρ.set i .no) (σ.set i (some (.ref p))) := fun j s ej m z => by
    have h1 : i ≠ j := fun q => by
      subst q
      rw [List.getElem?_set] at ej
      split at ej
      · split at ej
        · cases ej; exact m
        · cases ej
      · exact absurd rfl ‹_›
    rw [List.getElem?_set_ne h1] at ej z
    exact f.uniq i j _ s h1 e ej trivial m (es.trans z.symm)
  have pn : φ.pr p = none := by
    cases z : φ.pr p with
    | none => rfl
    | some u => exact absurd es ((f.prot p u z).2.2 i _ e trivial)
  have f1 := hw.drop n0 ns pn
  have dt : Dt K (less O p) H d (.ref p) := (q.step stp_less rfl).dt (fun z => z.2 rfl) hd
  have f2 := f1.put (i := i) dt
  rw [List.set_set, List.set_set] at f2
  have es2 : σ.set i (some (.ref p)) = σ := by
    apply List.ext_getElem?
    intro j
    rw [List.getElem?_set]
    split
    · rename_i q
      subst q
      split
      · exact es.symm
      · rename_i hl
        rw [List.getElem?_eq_none (by simpa using hl)] at es; cases es
    · rfl
  rw [es2] at f2
  exact ⟨f2, dt⟩
/-- an own slot's object is changed -/
theorem stp_mut {p : Addr} {o : HO} (h : O p) : Stp O H O (upd H p o) :=
  ⟨fun b u n e => (upd_ne (show b ≠ p from fun z => n (by rw [z]; exact h))).trans e, fun b z => .inl z⟩
theorem Fm.mut {i : Nat} {s : Sl} {p : Addr} {o : HO} {d' : D} {t : Sl} (f : Fm K φ O ρ σ H) (e : ρ[i]? = some s) (m : s.mine) (es : σ[i]? = some (some (.ref p))) (hn : Own K O (upd H p o) d' p)
    (ht : (∃ d, s = .own d ∧ t = .own d') ∨ ∃ j d, s = .iox j d ∧ t = .iox j d') : Fm K φ O (ρ.set i t) σ (upd H p o) := by
  have op : O p ∧ (φ.H0 p = none ∨ p ∈ φ.ai) := by
    have q := f.slot i s e
    cases s with
    | own d => obtain ⟨a, e', o', n, q⟩ := q; rw [es] at e'; cases e'; exact ⟨o', .inl n⟩
    | iox j0 d => obtain ⟨a, e0, e', o', q⟩ := q; rw [es] at e'; cases e'; exact ⟨o', .inr (List.mem_of_getElem? e0)⟩
    | no => exact m.elim
    | dat d => exact m.elim
  refine ⟨by rw [List.length_set, f.len], fun a z => ?_, f.oc, f.ocs, f.aoc, fun b u z q => ?_, fun j u ej => ?_, fun j k s' t' n e1 e2 m1 m2 => ?_, fun b u z => ⟨(f.prot b u z).1, (upd_ne (show b ≠ p from fun w => absurd es (by rw [← w]; exact (f.prot b u z).2.2 i s e m))).trans (f.prot b u z).2.1, (f.prot b u z).2.2.chg e fun _ => m⟩⟩
  · by_cases q : a = p
    · subst q; exact ⟨_, upd_same⟩
    · rw [upd_ne q]; exact f.here a z
  · have ne : b ≠ p := fun w => by
      subst w
      rcases op.2 with h | h
      · rw [h] at q; cases q
      · exact z h
    rw [upd_ne ne]
    exact f.kept b u z q
  · by_cases hj : i = j
    · subst hj
      have hl : i < ρ.length := (List.getElem?_eq_some_iff.mp e).1
      rw [List.getElem?_set_self hl] at ej
      cases ej
      have q := f.slot i s e
      rcases ht with ⟨d, rfl, rfl⟩ | ⟨j, d, rfl, rfl⟩
      · obtain ⟨a, e', o', n, q⟩ := q
        rw [es] at e'; cases e'
        exact ⟨p, es, o', n, hn⟩
      · obtain ⟨a, e0, e', o', q⟩ := q
        rw [es] at e'; cases e'
        exact ⟨p, e0, es, o', hn⟩
    · rw [List.getElem?_set_ne hj] at ej
      refine (f.slot j u ej).step (stp_mut op.1) fun mu a ha => ?_
      have q := f.slot j u ej
      have ne : a ≠ p := fun z => f.uniq i j s u hj e ej m mu (by rw [es, ha, z])
      have go : ∀ a', O a' → σ[j]? = some (some (.ref a')) → O a := fun a' o' e' => by rw [ha] at e'; cases e'; exact o'
      cases u with
      | own d => obtain ⟨a', e', o', n, q⟩ := q; exact ⟨go a' o' e', upd_ne ne⟩
      | iox j0 d => obtain ⟨a', e0, e', o', q⟩ := q; exact ⟨go a' o' e', upd_ne ne⟩
      | no => exact mu.elim
      | dat d => exact mu.elim
  · have mi : ∀ (k : Nat) (u : Sl), (ρ.set i t)[k]? = some u → u.mine → ∃ u' : Sl, ρ[k]? = some u' ∧ u'.mine := fun k u ek mu => by
      by_cases hk : i = k
      · subst hk; exact ⟨s, e, m⟩
      · rw [List.getElem?_set_ne hk] at ek; exact ⟨u, ek, mu⟩
    obtain ⟨s1, f1, g1⟩ := mi j s' e1 m1
    obtain ⟨s2, f2, g2⟩ := mi k t' e2 m2
    exact f.uniq j k s1 s2 n f1 f2 g1 g2
/-! ### an object under way -/
abbrev Fx.hold (φ : Fx) (p : Addr) (o : HO) : Fx := { φ with pr := fun b => if b = p then some o else φ.pr b }
theorem Fm.hold {p : Addr} {o : HO} (f : Fm K φ O ρ σ H) (op : O p) (e : H p = some o) (ns : NoSlot p ρ σ) : Fm K (φ.hold p o) O ρ σ H := by
  refine ⟨f.len, f.here, f.oc, f.ocs, f.aoc, f.kept, fun i s h => ?_, f.uniq, fun b u z => ?_⟩
  · have q := f.slot i s h
    cases s <;> exact q
  · by_cases hb : b = p
    · subst hb
      have z' : (if b = b then some o else φ.pr b) = some u := z
      rw [if_pos rfl] at z'
      cases z'
      exact ⟨op, e, ns⟩
    · have z' : (if b = p then some o else φ.pr b) = some u := z
      rw [if_neg hb] at z'
      exact f.prot b u z'
theorem Fm.held {p : Addr} {o : HO} (f : Fm K (φ.hold p o) O ρ σ H) : O p ∧ H p = some o ∧ NoSlot p ρ σ := f.prot p o (if_pos rfl)
theorem Fm.free {p : Addr} {o : HO} (pn : φ.pr p = none) (f : Fm K (φ.hold p o) O ρ σ H) : Fm K φ O ρ σ H := by
  refine ⟨f.len, f.here, f.oc, f.ocs, f.aoc, f.kept, fun i s h => ?_, f.uniq, fun b u z => ?_⟩
  · have q := f.slot i s h
    cases s <;> exact q
  · refine f.prot b u ?_
    by_cases hb : b = p
    · subst hb; rw [pn] at z; cases z
    · exact (if_neg hb).trans z
/-- it is changed -/
theorem Fm.pmut {p : Addr} {o o' : HO} (f : Fm K (φ.hold p o) O ρ σ H) (n0 : φ.H0 p = none) : Fm K (φ.hold p o') O ρ σ (upd H p o') := by
  obtain ⟨op, ep, ns⟩ := f.held
  refine ⟨f.len, fun a z => ?_, f.oc, f.ocs, f.aoc, fun b u z q => ?_, fun i s h => ?_, f.uniq, fun b u z => ?_⟩
  · by_cases q : a = p
    · subst q; exact ⟨_, upd_same⟩
    · rw [upd_ne q]; exact f.here a z
  · have ne : b ≠ p := fun w => by
      subst w
      have q' : φ.H0 b = some u := q
      rw [n0] at q'; cases q'
    rw [upd_ne ne]
    exact f.kept b u z q
  · refine SlOk.step (φ := φ.hold p o') (stp_mut op) (show SlOk K (φ.hold p o') O H s σ[i]? by
      have q := f.slot i s h
      cases s <;> exact q) fun m a ha => ?_
    have ne : a ≠ p := fun z => ns i s h m (z ▸ ha)
    have q := f.slot i s h
    have go : ∀ a', O a' → σ[i]? = some (some (.ref a')) → O a := fun a' o' e' => by rw [ha] at e'; cases e'; exact o'
    cases s with
    | own d => obtain ⟨a', e', o', n, q⟩ := q; exact ⟨go a' o' e', upd_ne ne⟩
    | iox j0 d => obtain ⟨a', e0, e', o', q⟩ := q; exact ⟨go a' o' e', upd_ne ne⟩
    | no => exact m.elim
    | dat d => exact m.elim
  · by_cases hb : b = p
    · subst hb
      have z' : (if b = b then some o' else φ.pr b) = some u := z
      rw [if_pos rfl] at z'
      cases z'
      exact ⟨op, upd_same, ns⟩
    · have z' : (if b = p then some o' else φ.pr b) = some u := z
      rw [if_neg hb] at z'
      rw [upd_ne hb]
      exact f.prot b u ((if_neg hb).trans z')
end
end VS

namespace VS
open PySem PySem.Spec PyProof.Rows L2
/-! ### meanings -/
structure Ex where
  cls : Value
  fs : Option (List (Str × D))
def Xc (K : PySem.W.Frag) (O : Ow) (H : Hp) (e : Ex) (c : Value) (dd : Option Addr) : Prop := c = e.cls ∧ match e.fs with
  | none => dd = none
  | some fs => ∃ a es, dd = some a ∧ ¬ O a ∧ H a = some (exd a es) ∧ DtFs K O H fs es
inductive Rs (α : Type) where
  | no | ok (a : α) (ρ : List Sl) | ex (e : Ex) (ρ : List Sl)
def Mo (α : Type) := List Sl → Rs α
def Mo.ret {α : Type} (a : α) : Mo α := fun ρ => .ok a ρ
def Mo.thn {α β : Type} (m : Mo α) (f : α → Mo β) : Mo β := fun ρ => match m ρ with
  | .no => .no
  | .ok a ρ' => f a ρ'
  | .ex e ρ' => .ex e ρ'
instance : Monad Mo where
  pure := Mo.ret
  bind := Mo.thn
def Rs.thn {α β : Type} (r : Rs α) (k : α → List Sl → Rs β) : Rs β := match r with
  | .no => .no
  | .ok a ρ' => k a ρ'
  | .ex e ρ' => .ex e ρ'
theorem bind_eq {α β : Type} (m : Mo α) (k : α → Mo β) (ρ : List Sl) : (m >>= k) ρ = (m ρ).thn k := by
  show Mo.thn m k ρ = _
  unfold Mo.thn Rs.thn
  rfl
theorem pure_eq {α : Type} (a : α) (ρ : List Sl) : (pure a : Mo α) ρ = .ok a ρ := rfl
def Mo.lift {α : Type} : Option α → Mo α
  | some a => fun ρ => .ok a ρ
  | none => fun _ => .no
/-- where a value is found -/
inductive Pl where
  | imm (d : D) | slot (i : Nat)
abbrev Rl (α β : Type) := Fx → L2.St → Ow → Hp → List Sl → α → β → Prop
def fin {α β : Type} (K : PySem.W.Frag) (W : WX) (rel : Rl α β) (φ : Fx) (m : Mo α) (σ : L2.St) (O : Ow) (ρ : List Sl) (H : Hp) (Q : β → Hp → Prop) : Prop :=
  match m ρ with
  | .no => False
  | .ok a ρ' => ∀ v O' H', Fm K φ O' ρ' σ H' → Stp O H O' H' → rel φ σ O' H' ρ' a v → Q v H'
  | .ex e ρ' => ∀ c dd O' H', Fm K φ O' ρ' σ H' → Stp O H O' H' → Xc K O' H' e c dd → W c dd σ H'
def tX {α β : Type} (K : PySem.W.Frag) (W : WX) (rel : Rl α β) (m : Mo α) : L2.St → Hp → (β → Hp → Prop) → Prop := fun σ H Q =>
  ∃ φ O ρ, Fm K φ O ρ σ H ∧ fin K W rel φ m σ O ρ H Q
def rD (K : PySem.W.Frag) : Rl D V := fun _ _ O H _ d v => Dt K O H d v
def rP (K : PySem.W.Frag) : Rl Pl V := fun _ σ O H _ p v => match p with
  | .imm d => Dt K O H d v
  | .slot i => σ[i]? = some (some v)
def rF (K : PySem.W.Frag) : Rl D V := fun φ σ O H ρ d v => ∃ p, v = .ref p ∧ O p ∧ φ.H0 p = none ∧ NoSlot p ρ σ ∧ φ.pr p = none ∧ Own K O H d p
def rB : Rl Bool Bool := fun _ _ _ _ _ b c => b = c
def rA (K : PySem.W.Frag) : Rl (List D) (List V) := fun _ _ O H _ ds vs => DtAll K O H ds vs
/-- places, one after another -/
def PlOk (K : PySem.W.Frag) (σ : L2.St) (O : Ow) (H : Hp) : Pl → V → Prop
  | .imm d, v => Dt K O H d v
  | .slot i, v => σ[i]? = some (some v)
def PlAll (K : PySem.W.Frag) (σ : L2.St) (O : Ow) (H : Hp) : List Pl → List V → Prop
  | [], xs => xs = []
  | p :: ps, xs => ∃ x r, xs = x :: r ∧ PlOk K σ O H p x ∧ PlAll K σ O H ps r
def rPs (K : PySem.W.Frag) : Rl (List Pl) (List V) := fun _ σ O H _ ps vs => PlAll K σ O H ps vs
abbrev tE (K : PySem.W.Frag) (W : WX) (m : Mo D) : TE := tX K W (rD K) m
abbrev tP (K : PySem.W.Frag) (W : WX) (m : Mo Pl) : TE := tX K W (rP K) m
abbrev tF (K : PySem.W.Frag) (W : WX) (m : Mo D) : TE := tX K W (rF K) m
abbrev tT (K : PySem.W.Frag) (W : WX) (m : Mo Bool) : TT := tX K W rB m
abbrev tA (K : PySem.W.Frag) (W : WX) (m : Mo (List D)) : TA := tX K W (rA K) m
abbrev tPs (K : PySem.W.Frag) (W : WX) (m : Mo (List Pl)) : TA := tX K W (rPs K) m
section
variable {K : PySem.W.Frag} {W : WX} {φ : Fx} {α β γ δ : Type} {rel : Rl α β} {rel2 : Rl γ δ} {m : Mo α} {k : α → Mo γ} {σ : L2.St} {O : Ow} {ρ : List Sl} {H : Hp}
theorem fin_mono {Q Q' : β → Hp → Prop} (h : fin K W rel φ m σ O ρ H Q) (q : ∀ v H', Q v H' → Q' v H') : fin K W rel φ m σ O ρ H Q' := by
  unfold fin at h ⊢
  split at h
  · exact h
  · exact fun v O' H' a b c => q _ _ (h v O' H' a b c)
  · exact h
theorem tX_mono {Q Q' : β → Hp → Prop} (h : tX K W rel m σ H Q) (q : ∀ v H', Q v H' → Q' v H') : tX K W rel m σ H Q' := by
  obtain ⟨φ, O, ρ, f, h⟩ := h
  exact ⟨φ, O, ρ, f, fin_mono h q⟩
theorem fin_bind {Q : δ → Hp → Prop} (f : Fm K φ O ρ σ H) (h : fin K W rel2 φ (m >>= k) σ O ρ H Q) : tX K W rel m σ H (fun v H1 => ∃ O1 ρ1 a, Fm K φ O1 ρ1 σ H1 ∧ Stp O H O1 H1 ∧ rel φ σ O1 H1 ρ1 a v ∧ fin K W rel2 φ (k a) σ O1 ρ1 H1 Q) := by
  refine ⟨φ, O, ρ, f, ?_⟩
  unfold fin at h ⊢
  have e : (m >>= k) ρ = (match m ρ with | .no => .no | .ok a ρ' => k a ρ' | .ex e ρ' => .ex e ρ') := rfl
  rw [e] at h
  cases hm : m ρ with
  | no => rw [hm] at h; exact h
  | ok a ρ1 =>
    rw [hm] at h
    dsimp only at h ⊢
    intro v O1 H1 f1 s1 r1
    refine ⟨O1, ρ1, a, f1, s1, r1, ?_⟩
    cases hk : k a ρ1 with
    | no => rw [hk] at h; exact h
    | ok c ρ2 => rw [hk] at h; exact fun v2 O2 H2 f2 s2 r2 => h v2 O2 H2 f2 (s1.trans s2) r2
    | ex e ρ2 => rw [hk] at h; exact fun c dd O2 H2 f2 s2 r2 => h c dd O2 H2 f2 (s1.trans s2) r2
  | ex e ρ1 => rw [hm] at h; exact h
theorem fin_ret {Q : β → Hp → Prop} {a : α} (h : fin K W rel φ (pure a) σ O ρ H Q) : ∀ v O' H', Fm K φ O' ρ σ H' → Stp O H O' H' → rel φ σ O' H' ρ a v → Q v H' := h
theorem fin_lift {Q : β → Hp → Prop} {o : Option α} (h : fin K W rel φ (Mo.lift o) σ O ρ H Q) : ∃ a, o = some a ∧ ∀ v O' H', Fm K φ O' ρ σ H' → Stp O H O' H' → rel φ σ O' H' ρ a v → Q v H' := by
  cases o with
  | none => exact h.elim
  | some a => exact ⟨a, rfl, h⟩
end
theorem peI {X : Cx} {e : Expr} {t t' : TE} (h : PE X e t) (i : ∀ σ H Q, t' σ H Q → t σ H Q) : PE X e t' := ⟨fun pins s σ H Q I q => h.run pins s σ H Q I (i σ H Q q)⟩
theorem ptI {X : Cx} {e : Expr} {t t' : TT} (h : PT X e t) (i : ∀ σ H Q, t' σ H Q → t σ H Q) : PT X e t' := ⟨fun pins s σ H Q I q => h.run pins s σ H Q I (i σ H Q q)⟩
theorem pwI {X : Cx} {e : Expr} {t t' : TT} (h : PW X e t) (i : ∀ σ H Q, t' σ H Q → t σ H Q) : PW X e t' := ⟨fun w pins s σ H Q I q => h.run w pins s σ H Q I (i σ H Q q)⟩
theorem paI {X : Cx} {e : List Expr} {t t' : TA} (h : PA X e t) (i : ∀ σ H Q, t' σ H Q → t σ H Q) : PA X e t' := ⟨fun p pins s σ H Q I q => h.run p pins s σ H Q I (i σ H Q q)⟩
theorem psI {X : Cx} {e : Stmt} {t t' : TS} (h : PS X e t) (i : ∀ D σ H, t' D σ H → t D σ H) : PS X e t' := ⟨fun pins s σ H D I q => h.run pins s σ H D I (i D σ H q)⟩
theorem pssI {X : Cx} {e : List Stmt} {t t' : TS} (h : PSs X e t) (i : ∀ D σ H, t' D σ H → t D σ H) : PSs X e t' := ⟨fun pins s σ H D I q => h.run pins s σ H D I (i D σ H q)⟩
/-! ### names, constants -/
def slotR (i : Nat) (ρ : List Sl) : Option Sl → Rs Pl
  | some (.dat _) => .ok (.slot i) ρ
  | some (.own _) => .ok (.slot i) ρ
  | some (.iox _ _) => .ok (.slot i) ρ
  | _ => .no
def slotM (i : Nat) : Mo Pl := fun ρ => slotR i ρ ρ[i]?
def lookR (ρ : List Sl) : Option Sl → Rs D
  | some (.dat d) => .ok d ρ
  | some (.own d) => .ok d ρ
  | some (.iox _ d) => .ok d ρ
  | _ => .no
def look (p : Pl) : Mo D := fun ρ => match p with
  | .imm d => .ok d ρ
  | .slot i => lookR ρ ρ[i]?
def leakR (i : Nat) (ρ : List Sl) : Option Sl → Rs D
  | some (.dat d) => .ok d ρ
  | some (.own d) => .ok d (ρ.set i (.dat d))
  | _ => .no
def leak (p : Pl) : Mo D := fun ρ => match p with
  | .imm d => .ok d ρ
  | .slot i => leakR i ρ ρ[i]?
def looks : List Pl → Mo (List D)
  | [] => pure []
  | p :: ps => do let d ← look p; let r ← looks ps; pure (d :: r)
section
variable {X : Cx} {W : WX} {e : Expr} {f : Mo D} {g : Mo Pl}
theorem sp_var (i : Nat) {x : Str} {pos : Pos} (hN : X.N[i]? = some x := by rfl) (hv : Vis X.env.scope x := by first | exact Or.inl rfl | exact Or.inr (Or.inl rfl) | exact Or.inr (Or.inr rfl)) (hd : (x == ("__debug__" : Str)) = false := by decide)
    (hcd : (x == ("__classdict__" : Str)) = false := by decide) : PE X (.Name x pos) (tP X.K W (slotM i)) := by
  refine peI (pe_var (i := i) hN hv hd hcd) fun σ H Q h => ?_
  obtain ⟨φ, O, ρ, f, h⟩ := h
  unfold fin at h
  rw [show slotM i ρ = slotR i ρ ρ[i]? from rfl] at h
  cases e : ρ[i]? with
  | none => rw [e] at h; exact h.elim
  | some s =>
    rw [e] at h
    have q := f.slot i s e
    cases s with
    | no => exact h.elim
    | dat d => obtain ⟨v, ev, q⟩ := q; exact ⟨v, ev, h v O H f .refl ev⟩
    | own d => obtain ⟨a, ev, q⟩ := q; exact ⟨_, ev, h _ O H f .refl ev⟩
    | iox j0 d => obtain ⟨a, _, ev, q⟩ := q; exact ⟨_, ev, h _ O H f .refl ev⟩
theorem look_ok {K : PySem.W.Frag} {φ : Fx} {O : Ow} {ρ : List Sl} {σ : L2.St} {H : Hp} {p : Pl} {v : V} {d : D} {ρ' : List Sl} (f : Fm K φ O ρ σ H) (h : PlOk K σ O H p v) (e : look p ρ = .ok d ρ') : ρ' = ρ ∧ Lk K O H d v := by
  cases p with
  | imm d0 => cases e; exact ⟨rfl, Dt.lk h⟩
  | slot i =>
    rw [show look (.slot i) ρ = lookR ρ ρ[i]? from rfl] at e
    have h' : σ[i]? = some (some v) := h
    cases eq : ρ[i]? with
    | none => rw [eq] at e; cases e
    | some s =>
      rw [eq] at e
      have q := f.slot i s eq
      cases s with
      | no => cases e
      | dat d0 => cases e; obtain ⟨w, ev, q⟩ := q; rw [h'] at ev; cases ev; exact ⟨rfl, q.lk⟩
      | own d0 => cases e; obtain ⟨a, ev, _, _, q⟩ := q; rw [h'] at ev; cases ev; exact ⟨rfl, q.lk⟩
      | iox j0 d0 => cases e; obtain ⟨a, _, ev, _, q⟩ := q; rw [h'] at ev; cases ev; exact ⟨rfl, q.lk⟩
theorem look_ne {p : Pl} {ρ : List Sl} {e : Ex} {ρ' : List Sl} : look p ρ ≠ .ex e ρ' := by
  cases p with
  | imm d => intro h; cases h
  | slot i => rw [show look (.slot i) ρ = lookR ρ ρ[i]? from rfl]; intro h; cases q : ρ[i]? with
    | none => rw [q] at h; cases h
    | some s => rw [q] at h; cases s <;> cases h
/-- a look, inside -/
theorem fin_look {K : PySem.W.Frag} {φ : Fx} {O : Ow} {ρ : List Sl} {σ : L2.St} {H : Hp} {p : Pl} {v : V} {γ δ : Type} {rel2 : Rl γ δ} {k : D → Mo γ} {Q : δ → Hp → Prop} (f : Fm K φ O ρ σ H) (h : PlOk K σ O H p v) (q : fin K W rel2 φ (look p >>= k) σ O ρ H Q) :
    ∃ d, Lk K O H d v ∧ fin K W rel2 φ (k d) σ O ρ H Q := by
  unfold fin at q
  rw [bind_eq] at q
  cases hm : look p ρ with
  | no => rw [hm] at q; exact q.elim
  | ok d ρ' =>
    rw [hm] at q
    obtain ⟨rfl, l⟩ := look_ok f h hm
    exact ⟨d, l, q⟩
  | ex e ρ' => exact absurd hm look_ne
/-- what is one's own is given away: a dict is locked -/
theorem own_dat {X : Cx} {pins : List (Addr × Obj)} {σ : L2.St} {H : Hp} {s : Shared} {φ : Fx} {O : Ow} {ρ : List Sl} {d : D} {p : Addr} (I : Inv X pins σ H s) (f : Fm X.K φ O ρ σ H) (n0 : φ.H0 p = none) (ns : NoSlot p ρ σ) (pn : φ.pr p = none) (op : O p) (ow : Own X.K O H d p) :
    ∃ H', Inv X pins σ H' s ∧ Fm X.K φ (less O p) ρ σ H' ∧ Stp O H (less O p) H' ∧ Dt X.K (less O p) H' d (.ref p) := by
  by_cases hd : d.isDct = false
  · exact ⟨H, I, f.drop n0 ns pn, stp_less, (ow.step stp_less rfl).dt (fun z => z.2 rfl) hd⟩
  · cases d with
    | dct kvs =>
      obtain ⟨es, r, q⟩ := ow
      obtain ⟨ob, J⟩ := I.lock (d := p) (u := .dK es) r trivial
      obtain ⟨f2, st⟩ := f.dropU (H' := upd H p (.frz ob (.dK es))) n0 ns pn (fun b o n e => by rw [upd_ne n]; exact e) op
      refine ⟨_, J, f2, st, ?_⟩
      unfold Dt
      exact ⟨p, ob, es, rfl, fun z => z.2 rfl, upd_same, q.step st⟩
    | dtk kvs =>
      obtain ⟨es, r, q⟩ := ow
      obtain ⟨ob, J⟩ := I.lock (d := p) (u := .dT es) r trivial
      obtain ⟨f2, st⟩ := f.dropU (H' := upd H p (.frz ob (.dT es))) n0 ns pn (fun b o n e => by rw [upd_ne n]; exact e) op
      refine ⟨_, J, f2, st, ?_⟩
      unfold Dt
      exact ⟨p, ob, es, rfl, fun z => z.2 rfl, upd_same, DtKt.step st _ _ q⟩
    | _ => exact absurd rfl hd
theorem leak_run {X : Cx} {pins : List (Addr × Obj)} {s : Shared} {φ : Fx} {O : Ow} {ρ : List Sl} {σ : L2.St} {H : Hp} {p : Pl} {v : V} {d : D} {ρ' : List Sl} (I : Inv X pins σ H s) (f : Fm X.K φ O ρ σ H) (h : PlOk X.K σ O H p v) (e : leak p ρ = .ok d ρ') : ∃ O' H', Inv X pins σ H' s ∧ Fm X.K φ O' ρ' σ H' ∧ Stp O H O' H' ∧ Dt X.K O' H' d v := by
  cases p with
  | imm d0 => cases e; exact ⟨O, H, I, f, .refl, h⟩
  | slot i =>
    rw [show leak (.slot i) ρ = leakR i ρ ρ[i]? from rfl] at e
    have h' : σ[i]? = some (some v) := h
    cases eq : ρ[i]? with
    | none => rw [eq] at e; cases e
    | some sl =>
      rw [eq] at e
      have q := f.slot i sl eq
      cases sl with
      | no => cases e
      | dat d0 => cases e; obtain ⟨w, ev, q⟩ := q; rw [h'] at ev; cases ev; exact ⟨O, H, I, f, .refl, q⟩
      | own d0 =>
        cases e
        obtain ⟨a, ev, oa, n0, ow⟩ := q
        rw [h'] at ev; cases ev
        have es2 : σ.set i (some (.ref a)) = σ := by
          apply List.ext_getElem?
          intro j
          rw [List.getElem?_set]
          split
          · rename_i q
            subst q
            split
            · exact h'.symm
            · rename_i hl
              rw [List.getElem?_eq_none (by simpa using hl)] at h'; cases h'
          · rfl
        have hw : Fm X.K φ O (ρ.set i .no) σ H := by
          have z := f.wipe1 (i := i) (x := some (.ref a))
          rw [es2] at z; exact z
        have ns : NoSlot a (ρ.set i .no) σ := fun j s ej m z => by
          have h1 : i ≠ j := fun q => by
            subst q
            rw [List.getElem?_set] at ej
            split at ej
            · split at ej
              · cases ej; exact m
              · cases ej
            · exact absurd rfl ‹_›
          rw [List.getElem?_set_ne h1] at ej
          exact f.uniq i j _ s h1 eq ej trivial m (h'.trans z.symm)
        have pn : φ.pr a = none := by
          cases z : φ.pr a with
          | none => rfl
          | some u => exact absurd h' ((f.prot a u z).2.2 i _ eq trivial)
        obtain ⟨H', J, f2, st, dt⟩ := own_dat I hw n0 ns pn oa ow
        have f3 := f2.put (i := i) dt
        rw [List.set_set, es2] at f3
        exact ⟨less O a, H', J, f3, st, dt⟩
      | iox j0 d0 => cases e
theorem leak_ne {p : Pl} {ρ : List Sl} {e : Ex} {ρ' : List Sl} : leak p ρ ≠ .ex e ρ' := by
  cases p with
  | imm d => intro h; cases h
  | slot i => rw [show leak (.slot i) ρ = leakR i ρ ρ[i]? from rfl]; intro h; cases q : ρ[i]? with
    | none => rw [q] at h; cases h
    | some s => rw [q] at h; cases s with
      | _ => cases h
theorem se_leak (h : PE X e (tP X.K W g)) : PE X e (tE X.K W (g >>= leak)) := by
  refine ⟨fun pins s σ H Q I q => ?_⟩
  obtain ⟨φ, O, ρ, f, q⟩ := q
  refine thn (h.run pins s σ H _ I (fin_bind (rel := rP X.K) f q)) fun u s1 ⟨v, H1, I1, rv, O1, ρ1, a, f1, s1', r1, q1⟩ => ?_
  unfold fin at q1
  cases hm : leak a ρ1 with
  | no => rw [hm] at q1; exact q1.elim
  | ok d ρ' =>
    rw [hm] at q1
    obtain ⟨O2, H2, I2, f2, s2, dt⟩ := leak_run I1 f1 (by cases a <;> exact r1) hm
    exact ⟨v, H2, I2, rv, q1 v O2 H2 f2 s2 dt⟩
  | ex e ρ' => exact absurd hm leak_ne
def immM (f : Mo D) : Mo Pl := f >>= fun d => pure (.imm d)
theorem sp_e (h : PE X e (tE X.K W f)) : PE X e (tP X.K W (immM f)) := by
  refine peI h fun σ H Q q => ?_
  obtain ⟨φ, O, ρ, f, q⟩ := q
  exact tX_mono (fin_bind (rel := rD X.K) f q) fun v H1 ⟨O1, ρ1, a, f1, s1, r1, q1⟩ => q1 v O1 H1 f1 .refl r1
theorem se_f (h : PE X e (tF X.K W f)) : PE X e (tE X.K W f) := by
  refine ⟨fun pins s σ H Q I q => ?_⟩
  obtain ⟨φ, O, ρ, fm, q⟩ := q
  have z : tX X.K W (rF X.K) f σ H (fun v H1 => ∃ O1 ρ1 d p, v = .ref p ∧ f ρ = .ok d ρ1 ∧ Fm X.K φ O1 ρ1 σ H1 ∧ Stp O H O1 H1 ∧ O1 p ∧ φ.H0 p = none ∧ NoSlot p ρ1 σ ∧ φ.pr p = none ∧ Own X.K O1 H1 d p) := by
    refine ⟨φ, O, ρ, fm, ?_⟩
    unfold fin at q ⊢
    cases hm : f ρ with
    | no => rw [hm] at q; exact q
    | ok d ρ' =>
      intro v O' H' f' s' r'
      obtain ⟨p, rfl, op, n0, ns, pn, ow⟩ := r'
      exact ⟨O', ρ', d, p, rfl, rfl, f', s', op, n0, ns, pn, ow⟩
    | ex e ρ' => rw [hm] at q; exact q
  refine thn (h.run pins s σ H _ I z) fun u s1 ⟨v, H1, I1, rv, O1, ρ1, d, p, ev, hm, f1, s1', op, n0, ns, pn, ow⟩ => ?_
  subst ev
  obtain ⟨H2, I2, f2, st, dt⟩ := own_dat I1 f1 n0 ns pn op ow
  unfold fin at q
  rw [hm] at q
  exact ⟨.ref p, H2, I2, rv, q (.ref p) _ H2 f2 (s1'.trans st) dt⟩
theorem sp_f (h : PE X e (tF X.K W f)) : PE X e (tP X.K W (immM f)) := sp_e (se_f h)
theorem se_c {v : V} {d : D} (h : PE X e (tC v)) (r : ∀ O H, Dt X.K O H d v) : PE X e (tE X.K W (pure d)) :=
  peI h fun σ H Q ⟨φ, O, ρ, f, q⟩ => q v O H f .refl (r O H)
theorem se_int {i j pos} : PE X (.Constant (.int i) j pos) (tE X.K W (pure (.int i))) := se_c pe_int fun _ _ => by unfold Dt; rfl
theorem se_bl {b j pos} : PE X (.Constant (.bool b) j pos) (tE X.K W (pure (.bl b))) := se_c pe_bl fun _ _ => by unfold Dt; rfl
theorem se_non {j pos} : PE X (.Constant .none j pos) (tE X.K W (pure .non)) := se_c pe_non fun _ _ => by unfold Dt; rfl
theorem se_str {x j pos} : PE X (.Constant (.str x) j pos) (tE X.K W (pure (.str x))) := se_c pe_str fun _ _ => by unfold Dt; rfl
/-- a module's number -/
theorem se_gint {x : Str} {i : Int} {t : Tok} {pos : Pos} (hg : Gl X x) (hm : X.mg x = some (.int i t)) (hd : (x == ("__debug__" : Str)) = false := by decide) : PE X (.Name x pos) (tE X.K W (pure (.int i))) :=
  se_c (pe_glob hg hm (v := .int i) ⟨t, rfl⟩ hd) fun _ _ => by unfold Dt; rfl
/-! ### operators -/
/-- what an operator's rule asks is what h says -/
def RSem (K : PySem.W.Frag) (r : R2) (h : D → D → Option D) : Prop := ∀ (O : Ow) (H : Hp) (v1 v2 : V) (d1 d2 d : D) (Q : VK), Lk K O H d1 v1 → Lk K O H d2 v2 → h d1 d2 = some d → (∀ a, O a → ∃ o, H a = some o) →
  (∀ v H', Ext H H' → Dt K O H' d v → Q v H') → r v1 v2 H Q
def opM (h : D → D → Option D) (f g : Mo Pl) : Mo D := do
  let p ← f
  let q ← g
  let x ← look p
  let y ← look q
  Mo.lift (h x y)
theorem pl_step {K : PySem.W.Frag} {O O' : Ow} {H H' : Hp} {σ : L2.St} {p : Pl} {v : V} (s : Stp O H O' H') (h : PlOk K σ O H p v) : PlOk K σ O' H' p v := by
  cases p with
  | imm d => exact Dt.step s d v h
  | slot i => exact h
theorem rP_ok {K : PySem.W.Frag} {φ : Fx} {σ : L2.St} {O : Ow} {H : Hp} {ρ : List Sl} {p : Pl} {v : V} (h : rP K φ σ O H ρ p v) : PlOk K σ O H p v := by cases p <;> exact h
theorem op2 {K : PySem.W.Frag} {r : R2} {h : D → D → Option D} (hr : RSem K r h) {f g : Mo Pl} {σ : L2.St} {H : Hp} {Q : VK} (q : tX K W (rD K) (opM h f g) σ H Q) :
    tX K W (rP K) f σ H fun x H1 => tX K W (rP K) g σ H1 fun y H2 => r x y H2 Q := by
  obtain ⟨φ, O, ρ, fm, q⟩ := q
  refine tX_mono (fin_bind (rel := rP K) fm q) fun x H1 ⟨O1, ρ1, p, f1, s1, r1, q1⟩ => ?_
  refine tX_mono (fin_bind (rel := rP K) f1 q1) fun y H2 ⟨O2, ρ2, p2, f2, s2, r2, q2⟩ => ?_
  obtain ⟨d1, l1, q2⟩ := fin_look f2 (pl_step s2 (rP_ok r1)) q2
  obtain ⟨d2, l2, q2⟩ := fin_look f2 (rP_ok r2) q2
  obtain ⟨d, e, q2⟩ := fin_lift q2
  exact hr O2 H2 x y d1 d2 d Q l1 l2 e f2.here fun v H3 ex dt => q2 v O2 H3 (f2.ext ex) ex.stp dt
variable {a b c : Expr} {pos : Pos}
theorem se_op {op : Operator} {r : R2} {h : D → D → Option D} {f g : Mo Pl} (ho : OpR X (binaryOp op) r) (hr : RSem X.K r h) (ha : PE X a (tP X.K W f)) (hb : PE X b (tP X.K W g)) : PE X (.BinOp a op b pos) (tE X.K W (opM h f g)) :=
  peI (pe_op ho ha hb) fun σ H Q q => op2 hr q
theorem se_cmp {op : CmpOp} {r : R2} {h : D → D → Option D} {f g : Mo Pl} (ho : OpR X (compareOp op) r) (hr : RSem X.K r h) (ha : PE X a (tP X.K W f)) (hb : PE X b (tP X.K W g)) (hm : behindInMarks op b = false) : PE X (.Compare a [op] [b] pos) (tE X.K W (opM h f g)) :=
  peI (pe_cmpR ho ha hb hm) fun σ H Q q => op2 hr q
def asB : D → Mo Bool
  | .bl b => pure b
  | _ => fun _ => .no
def testM (f : Mo D) : Mo Bool := f >>= asB
theorem tst {K : PySem.W.Frag} {m : Mo D} {σ : L2.St} {H : Hp} {Q : Bool → Hp → Prop} (q : tX K W rB (testM m) σ H Q) : tX K W (rD K) m σ H fun x H' => ∃ k, x = .bl k ∧ Q k H' := by
  obtain ⟨φ, O, ρ, fm, q⟩ := q
  refine tX_mono (fin_bind (rel := rD K) fm q) fun x H1 ⟨O1, ρ1, d, f1, s1, r1, q1⟩ => ?_
  cases d with
  | bl b =>
    have e : x = .bl b := by unfold rD Dt at r1; exact r1
    exact ⟨b, e, q1 b O1 H1 f1 .refl rfl⟩
  | _ => exact q1.elim
theorem tst2 {K : PySem.W.Frag} {m : Mo D} {σ : L2.St} {H : Hp} {Q : Bool → Hp → Prop} (q : tX K W rB (testM m) σ H Q) : tX K W (rD K) m σ H fun x H' => ∃ k, x = .bl k ∧ Q k H' := tst q
theorem st_cmp {op : CmpOp} {r : R2} {h : D → D → Option D} {f g : Mo Pl} (ho : OpR X (compareOp op) r) (hr : RSem X.K r h) (ha : PE X a (tP X.K W f)) (hb : PE X b (tP X.K W g)) (hm : behindInMarks op b = false) : PT X (.Compare a [op] [b] pos) (tT X.K W (testM (opM h f g))) :=
  ptI (pt_cmpR ho ha hb hm) fun σ H Q q => op2 hr (tst2 q)
end
end VS

namespace VS
open PySem PySem.Spec PyProof.Rows L2
variable {gf : Bool}
/-! ### defs in a calm air: no repr is under way -/
def Sys (base : Heap) : Prop := ∃ o, base.get? sysModules = some o
structure FnG (P : Program) (w : World) (K : PySem.W.Frag) (mg : Str → Option Value) (base : Heap) (k : Nat) (f : Addr) (fd : FuncData) (ps : List Str) (sp : Sp) (gf : Bool := false) : Prop where
  ar : ∀ us G Q E, sp us G Q E → us.length = ps.length
  go : ∀ (A : Around) (out : List Env) (s : Shared) (G : Hp) (args : Args) (us : List Value) (ws : List V) (Q : VK) (E : XK), (gf = false → A.guards = some []) → Room k A → Env0 P w K mg base A out s G → BindsTo s fd args (ps.zip us) → Vals ws us → sp ws G Q E →
    codeAny (model P w) A (.call (.ref f) args) (CR (L2.CX P w) out P w G s Q E) s
theorem FnG.up {P : Program} {w : World} {K : PySem.W.Frag} {mg : Str → Option Value} {base : Heap} {j k : Nat} {f : Addr} {fd : FuncData} {ps : List Str} {sp : Sp} (F : FnG P w K mg base j f fd ps sp gf) (h : j ≤ k) : FnG P w K mg base k f fd ps sp gf :=
  ⟨F.ar, fun A out s G args us ws Q E g r => F.go A out s G args us ws Q E g (r.mono h)⟩
/-- where an expression stands -/
structure Cn (X : Cx) (W : WX) (k : Nat) (gf : Bool := false) : Prop where
  tk : Takes X W
  po : PassesOwn (model X.prog X.w) X.A X.env X.xe
  gu : gf = false → X.A.guards = some []
  rm : Room k X.A
  cm : X.calm = true
  sy : Sys X.base
abbrev W0 : WX := fun _ _ _ _ => False
theorem Cn.lo {X : Cx} {W : WX} {j k : Nat} (c : Cn X W k gf) (h : j ≤ k) : Cn X W j gf := ⟨c.tk, c.po, c.gu, c.rm.mono h, c.cm, c.sy⟩
theorem Cn.blk {X : Cx} {W : WX} {k : Nat} (c : Cn X W k gf) {s : Shared} {H : Hp} {sc : Scope} {ce : Env} {fp : List Addr} : Cn (X.blk s H sc ce fp) W0 k gf := ⟨takes0, PassesOwn.never, c.gu, c.rm, c.cm, c.sy⟩
/-- where a def's body stands -/
abbrev XO (P : Program) (w : World) (K : PySem.W.Frag) (mg : Str → Option Value) (base : Heap) (N : List Str) (qual : Str) (st : Stmt) (f : Addr) (cdv : Value) (A : Around) (out : List Env) (s : Shared) (G : Hp) (E : XK) : Cx := cxOf (L2.CX P w) P w K mg base N qual (defScope st) f cdv A out s G E
/-- a def of the text, perhaps with defaults, perhaps a method -/
structure FunG (K : PySem.W.Frag) (x qual : Str) (st : Stmt) (f : Addr) (fd : FuncData) : Prop where
  ex : ∃ (oc : Value) (od : Option Addr) (dV kV doc pm : Value) (an : Option Addr) (cdv ct : Value) (osl : Array (Option Value)),
    fd = PySem.W.fnOf x qual (defArgs st) (defBody st) (defScope st) dV kV doc pm an cdv ct ∧ K.lookup f = some ⟨oc, od, .func fd, osl⟩ ∧ PySem.W.codeIn K cdv qual = true
theorem Fun.g {K : PySem.W.Frag} {x qual : Str} {st : Stmt} {f : Addr} {fd : FuncData} (F : Fun K x qual st f fd) : FunG K x qual st f fd := by
  obtain ⟨oc, od, kV, doc, pm, an, cdv, ct, osl, e, lk, hcd⟩ := F.ex
  exact ⟨oc, od, .none, kV, doc, pm, an, cdv, ct, osl, e, lk, hcd⟩
section
variable {P : Program} {w : World} {K : PySem.W.Frag} {mg : Str → Option Value} {base : Heap}
theorem fnG_of {k : Nat} {f : Addr} {x qual : Str} {st : Stmt} {fd : FuncData} {N ps : List Str} {sp : Sp} (F : FunG K x qual st f fd) (S : FnScope N ps (defScope st)) (ar : ∀ us G Q E, sp us G Q E → us.length = ps.length) (sy : Sys base)
    (body : ∀ (cdv : Value) (A : Around) (out : List Env) (s : Shared) (us : List V) (G : Hp) (Q : VK) (E : XK), Cn (XO P w K mg base N qual st f cdv A out s G E) (fun c d _ H => E c d H) k gf → sp us G Q E →
      ∃ t, PSs (XO P w K mg base N qual st f cdv A out s G E) (defBody st) t ∧ t { nx := fun _ H' => Q .non H', rt := Q } (start N us) G) : FnG P w K mg base (k + 1) f fd ps sp gf := by
  obtain ⟨oc, od, dV, kV, doc, pm, an, cdv, ct, osl, rfl, lk, hcd⟩ := F.ex
  refine ⟨ar, fun A out s G args us ws Q E gu room e0 bd rv q => ?_⟩
  have many := ar _ _ _ _ q
  have kin : K.In s.heap := e0.mod.kin.keeps fun b o e => (e0.bs b o e).1
  have nolim : s.heap.NoLimit := e0.mod.nolimit.keeps fun b o e => (e0.bs b o e).1
  have room' := room.deeper (envOfC qual (defScope st) s.heap.objs.size f cdv)
  have cn : Cn (XO P w K mg base N qual st f cdv A out s G E) (fun c d _ H => E c d H) k gf := ⟨takes_of rfl rfl rfl rfl, passes_of rfl, gu, room', rfl, sy⟩
  obtain ⟨t, ht, hq⟩ := body cdv A out s ws G Q E cn q
  refine codeAny_call_function room.depth (kin _ _ lk) rfl S.co S.gen rfl (PySem.W.codeRec_of kin hcd) (bd _ _ _ _ ?_)
  have kinds : ∀ y ∈ ps.zip us, (defScope st).names.lookup y.1 = some .local ∨ ((defScope st).names.lookup y.1 = some .cell ∧ ((cellsFrom (s.heap.objs.size + 1) (defScope st).names []).lookup y.1).isSome = true) := by
    rintro ⟨n, v⟩ hy
    rcases S.par n (List.of_mem_zip hy).1 with z | z
    · exact .inl z
    · exact .inr ⟨z, PySem.W.cellsFrom_some _ _ _ (.inl z)⟩
  refine wpAny_newFunctionEnv_cells S.kind kinds fun env en s1 ic => ?_
  subst en
  refine ⟨nolim.keeps ic.toInCall.keep, codeAny_func ?_⟩
  have I : Inv (cxOf (L2.CX P w) P w K mg base N qual (defScope st) f cdv A out s G E) [] (start N ws) G s1 := inv_start S room.hd e0 many rv ic
  refine wpAny_mono (ht.run [] s1 (start N ws) G _ I hq) (fun fl s' z => ?_) fun e s' z => z
  have close : ∀ {σ' : L2.St} {G' : Hp} {v : V} {u : Value}, Inv (cxOf (L2.CX P w) P w K mg base N qual (defScope st) f cdv A out s G E) [] σ' G' s' → RelV v u → Q v G' → CE out P w G s Q u s' := by
    intro σ' G' v u J r z
    exact ⟨v, G', J.os, J.bare, J.base, J.hok, r, z⟩
  cases fl with
  | ret u => obtain ⟨v, σ', G', J, r, z⟩ := z; exact close J r z
  | next => obtain ⟨σ', G', J, z⟩ := z; exact close (v := .non) (u := .none) J rfl z
  | brk => obtain ⟨_, _, _, z⟩ := z; exact z.elim
  | cont => obtain ⟨_, _, _, z⟩ := z; exact z.elim
end
/-! ### a def as a function of data -/
inductive Fo where
  | no | ok (r : D) (io : Option D) | ex (e : Ex) (io : Option D)
abbrev FF := Option D → List D → Fo
def IoOk (K : PySem.W.Frag) (O : Ow) (H : Hp) : Option Addr → Option D → Prop
  | none, none => True
  | some a, some d => O a ∧ Own K O H d a
  | _, _ => False
/-- a promise by a function; new: what is handed back is the caller's own -/
def SpF (K : PySem.W.Frag) (new : Bool) (n : Nat) (F : FF) : Sp := fun vs H Q E => ∃ (Oc : Ow) (ai : Option Addr) (io : Option D) (ds : List D) (ws : List V), vs = (ai.toList.map V.ref) ++ ws ∧ vs.length = n ∧ (∀ a, Oc a → ∃ o, H a = some o) ∧
  IoOk K Oc H ai io ∧ DtAll K Oc H ds ws ∧
  match F io ds with
  | .no => False
  | .ok r io' => ∀ v H', (∀ b o, ai ≠ some b → H b = some o → H' b = some o) → IoOk K Oc H' ai io' → (if new = true then ∃ p, v = .ref p ∧ H p = none ∧ Own K (plus Oc p) H' r p ∧ IoOk K (plus Oc p) H' ai io' else Dt K Oc H' r v) → Q v H'
  | .ex e io' => ∀ c dd H', (∀ b o, ai ≠ some b → H b = some o → H' b = some o) → IoOk K Oc H' ai io' → Xc K Oc H' e c dd → E c dd H'
theorem SpF.ar {K : PySem.W.Frag} {new : Bool} {n : Nat} {F : FF} (us : List V) (G : Hp) (Q : VK) (E : XK) (h : SpF K new n F us G Q E) : us.length = n := by
  obtain ⟨_, _, _, _, _, _, e, _⟩ := h
  exact e
/-! ### statements -/
inductive Out where
  | nx | bk | ct | rt (d : D) | rn (d : D)
def sfin (K : PySem.W.Frag) (W : WX) (φ : Fx) (m : Mo Out) (O : Ow) (ρ : List Sl) (H : Hp) (σ : L2.St) (Dn : Ends) : Prop :=
  match m ρ with
  | .no => False
  | .ex e ρ' => ∀ c dd σ' O' H', Fm K φ O' ρ' σ' H' → Stp O H O' H' → Xc K O' H' e c dd → W c dd σ' H'
  | .ok out ρ' => match out with
    | .nx => ∀ σ' O' H', Fm K φ O' ρ' σ' H' → Stp O H O' H' → Dn.nx σ' H'
    | .bk => ∀ σ' O' H', Fm K φ O' ρ' σ' H' → Stp O H O' H' → Dn.bk σ' H'
    | .ct => ∀ σ' O' H', Fm K φ O' ρ' σ' H' → Stp O H O' H' → Dn.ct σ' H'
    | .rt d => ∀ v σ' O' H', Fm K φ O' ρ' σ' H' → Stp O H O' H' → Dt K O' H' d v → Dn.rt v H'
    | .rn d => ∀ v σ' O' H', Fm K φ O' ρ' σ' H' → Stp O H O' H' → (∃ p, v = .ref p ∧ O' p ∧ φ.H0 p = none ∧ NoSlot p ρ' σ' ∧ φ.pr p = none ∧ Own K O' H' d p) → Dn.rt v H'
def tS (K : PySem.W.Frag) (W : WX) (m : Mo Out) : TS := fun Dn σ H => ∃ φ O ρ, Fm K φ O ρ σ H ∧ sfin K W φ m O ρ H σ Dn
def seqO (m : Mo Out) : Out → Mo Out
  | .nx => m
  | o => pure o
def seqM (m1 m2 : Mo Out) : Mo Out := m1 >>= seqO m2
section
variable {K : PySem.W.Frag} {W : WX} {φ : Fx} {m m1 m2 : Mo Out} {σ : L2.St} {O : Ow} {ρ : List Sl} {H : Hp} {Dn : Ends}
theorem sfin_step {O0 : Ow} {H0 : Hp} {σ0 : L2.St} (s : Stp O0 H0 O H) (h : sfin K W φ m O0 ρ H0 σ0 Dn) : sfin K W φ m O ρ H σ Dn := by
  unfold sfin at h ⊢
  split at h
  · exact h
  · exact fun c dd σ' O' H' f t x => h c dd σ' O' H' f (s.trans t) x
  · split at h
    · exact fun σ' O' H' f t => h σ' O' H' f (s.trans t)
    · exact fun σ' O' H' f t => h σ' O' H' f (s.trans t)
    · exact fun σ' O' H' f t => h σ' O' H' f (s.trans t)
    · exact fun v σ' O' H' f t x => h v σ' O' H' f (s.trans t) x
    · exact fun v σ' O' H' f t x => h v σ' O' H' f (s.trans t) x
theorem seq_ok (h : tS K W (seqM m1 m2) Dn σ H) : tSeq (tS K W m1) (tS K W m2) Dn σ H := by
  obtain ⟨φ, O, ρ, f, h⟩ := h
  refine ⟨φ, O, ρ, f, ?_⟩
  unfold sfin seqM at h
  rw [bind_eq] at h
  unfold sfin
  cases e : m1 ρ with
  | no => rw [e] at h; exact h
  | ex x ρ' => rw [e] at h; exact h
  | ok o ρ' =>
    rw [e] at h
    cases o with
    | nx =>
      intro σ' O' H' f' s'
      exact ⟨φ, O', ρ', f', sfin_step (σ0 := σ) s' h⟩
    | bk => exact h
    | ct => exact h
    | rt d => exact h
    | rn d => exact h
end
section
variable {X : Cx} {W : WX} {st : Stmt} {rest : List Stmt} {m m1 m2 : Mo Out} {pos : Pos}
theorem sss_cons (h1 : PS X st (tS X.K W m1)) (h2 : PSs X rest (tS X.K W m2)) : PSs X (st :: rest) (tS X.K W (seqM m1 m2)) := pssI (pss_cons h1 h2) fun D σ H q => seq_ok q
theorem sss_one (h1 : PS X st (tS X.K W m1)) : PSs X [st] (tS X.K W m1) := pss_one h1
theorem sss_nil : PSs X [] (tS X.K W (pure .nx)) := pssI pss_nil fun D σ H ⟨φ, O, ρ, f, q⟩ => q σ O H f .refl
def ioEnd (io io' : Option D) (ρ' : List Sl) : Prop := match io with
  | none => io' = none
  | some _ => ∃ d, io' = some d ∧ ρ'[0]? = some (.io d)
/-- the body's meaning is the def's function -/
def bodyOk (F : FF) (new : Bool) (m : Mo Out) (N : Nat) : Prop := ∀ (io : Option D) (ds : List D) (r : Fo), F io ds = r → r ≠ .no → 
  let ρ0 := (io.toList.map Sl.io) ++ ds.map Sl.dat
  let ρ := ρ0 ++ List.replicate (N - ρ0.length) Sl.no
  match m ρ with
  | .no => False
  | .ex e ρ' => ∃ io', r = .ex e io' ∧ ioEnd io io' ρ'
  | .ok out ρ' => ∃ d io', r = .ok d io' ∧ ioEnd io io' ρ' ∧
    match out with
    | .nx => d = .non ∧ new = false
    | .rt d' => d = d' ∧ new = false
    | .rn d' => d = d' ∧ new = true
    | _ => False
theorem Own.less {K : PySem.W.Frag} {O O' : Ow} {H : Hp} {d : D} {a : Addr} (h : Own K O H d a) (s : ∀ b, O' b → O b) : Own K O' H d a := h.step (Stp.less s) rfl
theorem xc_less {K : PySem.W.Frag} {O O' : Ow} {H : Hp} {e : Ex} {c : Value} {dd : Option Addr} (h : Xc K O H e c dd) (s : ∀ b, O' b → O b) : Xc K O' H e c dd := by
  obtain ⟨e1, h⟩ := h
  refine ⟨e1, ?_⟩
  cases hf : e.fs with
  | none => rw [hf] at h; exact h
  | some fs =>
    rw [hf] at h
    obtain ⟨a, es, e2, n, e3, q⟩ := h
    exact ⟨a, es, e2, fun z => n (s _ z), e3, q.step (Stp.less s)⟩
theorem dtAll_len {K : PySem.W.Frag} {O : Ow} {H : Hp} : ∀ {ds : List D} {xs : List V}, DtAll K O H ds xs → ds.length = xs.length
  | [], _, h => by unfold DtAll at h; subst h; rfl
  | d :: ds, _, h => by
    unfold DtAll at h
    obtain ⟨x, r, rfl, _, h2⟩ := h
    rw [List.length_cons, List.length_cons, dtAll_len h2]
theorem dtAll_get {K : PySem.W.Frag} {O : Ow} {H : Hp} : ∀ {ds : List D} {xs : List V} {i : Nat} {d : D}, DtAll K O H ds xs → ds[i]? = some d → ∃ v, xs[i]? = some v ∧ Dt K O H d v
  | [], _, _, _, _, e => by simp at e
  | d :: ds, _, 0, d', h, e => by
    unfold DtAll at h
    obtain ⟨x, r, rfl, h1, h2⟩ := h
    cases e
    exact ⟨x, rfl, h1⟩
  | d :: ds, _, i + 1, d', h, e => by
    unfold DtAll at h
    obtain ⟨x, r, rfl, h1, h2⟩ := h
    exact dtAll_get (i := i) h2 e
theorem dtAll_app {K : PySem.W.Frag} {O : Ow} {H : Hp} : ∀ {ds es : List D} {xs ys : List V}, DtAll K O H ds xs → DtAll K O H es ys → DtAll K O H (ds ++ es) (xs ++ ys)
  | [], _, _, _, h, g => by unfold DtAll at h; subst h; exact g
  | d :: ds, _, _, _, h, g => by
    unfold DtAll at h
    obtain ⟨x, r, rfl, h1, h2⟩ := h
    show DtAll K O H (d :: (ds ++ _)) _
    unfold DtAll
    exact ⟨x, _, rfl, h1, dtAll_app h2 g⟩
theorem fm_start {K : PySem.W.Frag} {G : Hp} {Oc : Ow} {ai : Option Addr} {io : Option D} {ds : List D} {ws : List V} {N : List Str} (here : ∀ a, Oc a → ∃ o, G a = some o) (ho : IoOk K Oc G ai io) (hd : DtAll K Oc G ds ws) (hn : ((ai.toList.map V.ref) ++ ws).length ≤ N.length) :
    Fm K ⟨G, Oc, ai.toList, fun _ => none⟩ Oc (((io.toList.map Sl.io) ++ ds.map Sl.dat) ++ List.replicate (N.length - ((io.toList.map Sl.io) ++ ds.map Sl.dat).length) Sl.no) (start N ((ai.toList.map V.ref) ++ ws)) G := by
  have hl := dtAll_len hd
  have noU : ∀ (k i : Nat) (s : Sl), (List.replicate k Sl.no)[i]? = some s → s = .no := fun k i s e => by
    rw [List.getElem?_replicate] at e
    split at e
    · exact (Option.some.inj e).symm
    · cases e
  have datS : ∀ (i : Nat) (s : Sl), (ds.map Sl.dat)[i]? = some s → ∃ d, s = .dat d ∧ ds[i]? = some d := fun i s e => by
    rw [List.getElem?_map] at e
    cases q : ds[i]? with
    | none => rw [q] at e; cases e
    | some d => rw [q] at e; exact ⟨d, (Option.some.inj e).symm, rfl⟩
  cases ai with
  | none =>
    cases io with
    | some _ => exact ho.elim
    | none =>
      have low : ∀ (i : Nat) (s : Sl), ((ds.map Sl.dat) ++ List.replicate (N.length - (ds.map Sl.dat).length) Sl.no)[i]? = some s → s = .no ∨ ∃ d v, s = .dat d ∧ ws[i]? = some v ∧ Dt K Oc G d v := fun i s e => by
        by_cases hi : i < (ds.map Sl.dat).length
        · rw [List.getElem?_append_left hi] at e
          obtain ⟨d, rfl, ed⟩ := datS i s e
          obtain ⟨v, ev, q⟩ := dtAll_get hd ed
          exact .inr ⟨d, v, rfl, ev, q⟩
        · rw [List.getElem?_append_right (by omega)] at e
          exact .inl (noU _ _ _ e)
      refine ⟨?_, here, fun _ z => z, here, fun a z => (by cases z), fun b o _ e => e, fun i s e => ?_, fun i j s t n e1 e2 m1 m2 => ?_, fun b o z => (by cases z)⟩
      · show ((ds.map Sl.dat) ++ _).length = _
        unfold L2.start
        simp only [List.length_append, List.length_map, List.length_replicate, Option.toList, List.map_nil, List.nil_append] at hn ⊢
        omega
      · rcases low i s e with rfl | ⟨d, v, rfl, ev, q⟩
        · trivial
        · refine ⟨v, ?_, q⟩
          unfold L2.start
          show ((ws.map some) ++ _)[i]? = _
          have hi : i < (ws.map some).length := by rw [List.length_map]; exact (List.getElem?_eq_some_iff.mp ev).1
          rw [List.getElem?_append_left hi, List.getElem?_map, ev]
          rfl
      · rcases low i s e1 with rfl | ⟨d, v, rfl, _⟩
        · exact m1.elim
        · exact m1.elim
  | some a =>
    cases io with
    | none => exact ho.elim
    | some d0 =>
      obtain ⟨oa, ow⟩ := ho
      have low : ∀ (i : Nat) (s : Sl), ((Sl.io d0 :: ds.map Sl.dat) ++ List.replicate (N.length - (Sl.io d0 :: ds.map Sl.dat).length) Sl.no)[i]? = some s → (i = 0 ∧ s = .io d0) ∨ s = .no ∨ ∃ d v, s = .dat d ∧ (V.ref a :: ws)[i]? = some v ∧ Dt K Oc G d v := fun i s e => by
        cases i with
        | zero => exact .inl ⟨rfl, (Option.some.inj e).symm⟩
        | succ i =>
          have e' : ((ds.map Sl.dat) ++ List.replicate (N.length - (Sl.io d0 :: ds.map Sl.dat).length) Sl.no)[i]? = some s := e
          by_cases hi : i < (ds.map Sl.dat).length
          · rw [List.getElem?_append_left hi] at e'
            obtain ⟨d, rfl, ed⟩ := datS i s e'
            obtain ⟨v, ev, q⟩ := dtAll_get hd ed
            exact .inr (.inr ⟨d, v, rfl, ev, q⟩)
          · rw [List.getElem?_append_right (by omega)] at e'
            exact .inr (.inl (noU _ _ _ e'))
      have sg : ∀ (i : Nat) (v : V), (V.ref a :: ws)[i]? = some v → (L2.start N (V.ref a :: ws))[i]? = some (some v) := fun i v ev => by
        unfold L2.start
        have hi : i < ((V.ref a :: ws).map some).length := by rw [List.length_map]; exact (List.getElem?_eq_some_iff.mp ev).1
        rw [List.getElem?_append_left hi, List.getElem?_map, ev]
        rfl
      refine ⟨?_, here, fun _ z => z, here, fun b z => (by rw [List.mem_singleton.mp z]; exact oa), fun b o _ e => e, fun i s e => ?_, fun i j s t n e1 e2 m1 m2 => ?_, fun b o z => (by cases z)⟩
      · show ((Sl.io d0 :: ds.map Sl.dat) ++ _).length = (L2.start N (V.ref a :: ws)).length
        have hn' : (V.ref a :: ws).length ≤ N.length := hn
        unfold L2.start
        simp only [List.length_append, List.length_map, List.length_replicate, List.length_cons, show (some d0).toList.length = 1 from rfl] at hn' ⊢
        omega
      · rcases low i s e with ⟨rfl, rfl⟩ | rfl | ⟨d, v, rfl, ev, q⟩
        · exact ⟨a, rfl, sg 0 _ rfl, oa, ow⟩
        · trivial
        · exact ⟨v, sg i v ev, q⟩
      · rcases low i s e1 with ⟨rfl, rfl⟩ | rfl | ⟨d, v, rfl, _⟩
        · rcases low j t e2 with ⟨rfl, rfl⟩ | rfl | ⟨d, v, rfl, _⟩
          · exact absurd rfl n
          · exact m2.elim
          · exact m2.elim
        · exact m1.elim
        · exact m1.elim
theorem fn_data {P : Program} {w : World} {K : PySem.W.Frag} {mg : Str → Option Value} {base : Heap} {k : Nat} {f : Addr} {x qual : Str} {st : Stmt} {fd : FuncData} {N ps : List Str} {F : FF} {new : Bool} {m : Mo Out} (Fn : FunG K x qual st f fd) (S : FnScope N ps (defScope st)) (sy : Sys base)
    (hm : bodyOk F new m N.length)
    (body : ∀ (cdv : Value) (A : Around) (out : List Env) (s : Shared) (G : Hp) (E : XK), Cn (XO P w K mg base N qual st f cdv A out s G E) (fun c d _ H => E c d H) k gf → PSs (XO P w K mg base N qual st f cdv A out s G E) (defBody st) (tS K (fun c d _ H => E c d H) m)) : FnG P w K mg base (k + 1) f fd ps (SpF K new ps.length F) gf := by
  have hpl : ps.length ≤ N.length := by have := congrArg List.length S.pre; rw [List.length_take] at this; omega
  refine fnG_of Fn S SpF.ar sy fun cdv A out s us G Q E cn q => ?_
  refine ⟨_, body cdv A out s G E cn, ?_⟩
  obtain ⟨Oc, ai, io, ds, ws, rfl, ar, here, ho, hd, q⟩ := q
  have fm := fm_start (N := N) here ho hd (by rw [ar]; exact hpl)
  refine ⟨_, _, _, fm, ?_⟩
  have hF := hm io ds (F io ds) rfl (fun z => by rw [z] at q; exact q)
  dsimp only at hF
  unfold sfin
  have ioOut : ∀ {ρ' : List Sl} {σ' : L2.St} {O' : Ow} {H' : Hp} {io' : Option D}, Fm K ⟨G, Oc, ai.toList, fun _ => none⟩ O' ρ' σ' H' → ioEnd io io' ρ' → IoOk K Oc H' ai io' := by
    intro ρ' σ' O' H' io' f' hi
    cases ai with
    | none =>
      cases io with
      | some _ => exact ho.elim
      | none =>
        have e : io' = none := hi
        subst e
        trivial
    | some a =>
      cases io with
      | none => exact ho.elim
      | some d0 =>
        obtain ⟨d, e, e0⟩ := hi
        subst e
        obtain ⟨b, eb, _, ob, ow⟩ := f'.slot 0 _ e0
        cases eb
        exact ⟨ho.1, ow.less f'.oc⟩
  cases hmr : m (((io.toList.map Sl.io) ++ ds.map Sl.dat) ++ List.replicate (N.length - ((io.toList.map Sl.io) ++ ds.map Sl.dat).length) Sl.no) with
  | no => rw [hmr] at hF; exact hF
  | ex e ρ' =>
    rw [hmr] at hF
    obtain ⟨io', e1, hi⟩ := hF
    rw [e1] at q
    intro c dd σ' O' H' f' s' x
    have kept' : ∀ b o, ai ≠ some b → G b = some o → H' b = some o := fun b o n h => f'.kept b o (fun m => n (Option.mem_toList.mp m)) h
    exact q c dd H' kept' (ioOut f' hi) (xc_less x f'.oc)
  | ok out ρ' =>
    rw [hmr] at hF
    obtain ⟨d, io', e1, hi, ho'⟩ := hF
    rw [e1] at q
    cases out with
    | nx =>
      obtain ⟨rfl, rfl⟩ := ho'
      intro σ' O' H' f' s'
      have kept' : ∀ b o, ai ≠ some b → G b = some o → H' b = some o := fun b o n h => f'.kept b o (fun m => n (Option.mem_toList.mp m)) h
      refine q _ H' kept' (ioOut f' hi) ?_
      rw [if_neg (by decide)]
      unfold Dt
      rfl
    | rt d' =>
      obtain ⟨rfl, rfl⟩ := ho'
      intro v σ' O' H' f' s' dt
      have kept' : ∀ b o, ai ≠ some b → G b = some o → H' b = some o := fun b o n h => f'.kept b o (fun m => n (Option.mem_toList.mp m)) h
      refine q v H' kept' (ioOut f' hi) ?_
      rw [if_neg (by decide)]
      exact dt.step (Stp.less f'.oc)
    | rn d' =>
      obtain ⟨rfl, rfl⟩ := ho'
      intro v σ' O' H' f' s' ⟨p, e, op, n0, ns, pn, ow⟩
      have kept' : ∀ b o, ai ≠ some b → G b = some o → H' b = some o := fun b o n h => f'.kept b o (fun m => n (Option.mem_toList.mp m)) h
      refine q v H' kept' (ioOut f' hi) ?_
      rw [if_pos rfl]
      have sub : ∀ b, plus Oc p b → O' b := fun b z => z.elim (f'.oc b) fun z => z ▸ op
      refine ⟨p, e, n0, ow.less sub, ?_⟩
      cases ai with
      | none =>
        cases io with
        | some _ => exact ho.elim
        | none =>
          have e : io' = none := hi
          subst e
          trivial
      | some a =>
        cases io with
        | none => exact ho.elim
        | some d0 =>
          obtain ⟨d, e, e0⟩ := hi
          subst e
          obtain ⟨b, eb, _, ob, ow⟩ := f'.slot 0 _ e0
          cases eb
          exact ⟨.inl ho.1, ow.less sub⟩
    | bk => exact ho'.elim
    | ct => exact ho'.elim
end
end VS

namespace VS
open PySem PySem.Spec PyProof.Rows L2
/-! ### statements, one by one -/
section
variable {K : PySem.W.Frag} {W : WX} {φ : Fx} {α β : Type} {rel : Rl α β} {m : Mo α} {k : α → Mo Out} {σ : L2.St} {O : Ow} {ρ : List Sl} {H : Hp} {Dn : Ends}
theorem sfin_bind (f : Fm K φ O ρ σ H) (h : sfin K W φ (m >>= k) O ρ H σ Dn) : tX K W rel m σ H (fun v H1 => ∃ O1 ρ1 a, Fm K φ O1 ρ1 σ H1 ∧ Stp O H O1 H1 ∧ rel φ σ O1 H1 ρ1 a v ∧ sfin K W φ (k a) O1 ρ1 H1 σ Dn) := by
  refine ⟨φ, O, ρ, f, ?_⟩
  unfold sfin at h
  rw [bind_eq] at h
  unfold fin
  cases hm : m ρ with
  | no => rw [hm] at h; exact h
  | ex e ρ1 => rw [hm] at h; exact fun c dd O' H' f' s' x => h c dd σ O' H' f' s' x
  | ok a ρ1 =>
    rw [hm] at h
    exact fun v O1 H1 f1 s1 r1 => ⟨O1, ρ1, a, f1, s1, r1, sfin_step (σ0 := σ) s1 h⟩
end
def putM (i : Nat) (d : D) : Mo Out := fun ρ => .ok .nx (ρ.set i (.dat d))
def putF (i : Nat) (d : D) : Mo Out := fun ρ => .ok .nx (ρ.set i (.own d))
def setM (i : Nat) (f : Mo D) : Mo Out := f >>= putM i
def setF (i : Nat) (f : Mo D) : Mo Out := f >>= putF i
def retM (f : Mo D) : Mo Out := f >>= fun d => pure (.rt d)
def retF (f : Mo D) : Mo Out := f >>= fun d => pure (.rn d)
/-- an own list is handed on -/
def moveR (i : Nat) (ρ : List Sl) : Option Sl → Rs Out
  | some (.own d) => .ok (.rn d) (ρ.set i .no)
  | _ => .no
def moveM (i : Nat) : Mo Out := fun ρ => moveR i ρ ρ[i]?
def dropM {α : Type} (f : Mo α) : Mo Out := f >>= fun _ => pure .nx
def ifM (c : Mo Bool) (a b : Mo Out) : Mo Out := c >>= fun t => if t = true then a else b
section
variable {X : Cx} {W : WX} {e : Expr} {f : Mo D} {pos : Pos}
theorem asg_ok {i : Nat} {K : PySem.W.Frag} {σ : L2.St} {H : Hp} {Dn : Ends} (h : tS K W (setM i f) Dn σ H) : tAsg (tE K W f) (gName i) Dn σ H := by
  obtain ⟨φ, O, ρ, fm, h⟩ := h
  refine tX_mono (sfin_bind (rel := rD K) fm h) fun v H1 ⟨O1, ρ1, d, f1, s1, r1, q⟩ => ?_
  exact q _ O1 H1 (f1.put r1) .refl
theorem asgF_ok {i : Nat} {K : PySem.W.Frag} {σ : L2.St} {H : Hp} {Dn : Ends} (h : tS K W (setF i f) Dn σ H) : tAsg (tF K W f) (gName i) Dn σ H := by
  obtain ⟨φ, O, ρ, fm, h⟩ := h
  refine tX_mono (sfin_bind (rel := rF K) fm h) fun v H1 ⟨O1, ρ1, d, f1, s1, r1, q⟩ => ?_
  obtain ⟨p, rfl, op, n0, ns, pn, ow⟩ := r1
  exact q _ O1 H1 (f1.putOwn ow op n0 ns pn) .refl
theorem ss_set (i : Nat) {x : Str} {pos' : Pos} (hN : X.N.Nodup) (he : PE X e (tE X.K W f)) (hi : X.N[i]? = some x := by rfl) (hx : Loc X.env.scope x := by first | exact Or.inl rfl | exact Or.inr rfl) (hs : swapsWith e (some (.Name x pos')) pos.line X.env = pure false := by rfl)
    (hf : X.fn x = true ∨ X.env.scope.names.lookup x = some .local := by first | exact .inl rfl | exact .inr rfl | assumption) : PS X (.Assign [.Name x pos'] e pos) (tS X.K W (setM i f)) :=
  psI (ps_set hN hi hx he hs hf) fun D σ H q => asg_ok q
theorem ss_setF (i : Nat) {x : Str} {pos' : Pos} (hN : X.N.Nodup) (he : PE X e (tF X.K W f)) (hi : X.N[i]? = some x := by rfl) (hx : Loc X.env.scope x := by first | exact Or.inl rfl | exact Or.inr rfl) (hs : swapsWith e (some (.Name x pos')) pos.line X.env = pure false := by rfl)
    (hf : X.fn x = true ∨ X.env.scope.names.lookup x = some .local := by first | exact .inl rfl | exact .inr rfl | assumption) : PS X (.Assign [.Name x pos'] e pos) (tS X.K W (setF i f)) :=
  psI (ps_set hN hi hx he hs hf) fun D σ H q => asgF_ok q
theorem ss_ret (he : PE X e (tE X.K W f)) : PS X (.Return (some e) pos) (tS X.K W (retM f)) := psI (ps_ret he) fun D σ H q => by
  obtain ⟨φ, O, ρ, fm, q⟩ := q
  exact tX_mono (sfin_bind (rel := rD X.K) fm q) fun v H1 ⟨O1, ρ1, d, f1, s1, r1, q⟩ => q v σ O1 H1 f1 .refl r1
theorem ss_retF (he : PE X e (tF X.K W f)) : PS X (.Return (some e) pos) (tS X.K W (retF f)) := psI (ps_ret he) fun D σ H q => by
  obtain ⟨φ, O, ρ, fm, q⟩ := q
  exact tX_mono (sfin_bind (rel := rF X.K) fm q) fun v H1 ⟨O1, ρ1, d, f1, s1, r1, q⟩ => q v σ O1 H1 f1 .refl r1
theorem ss_retN : PS X (.Return none pos) (tS X.K W (pure (.rt .non))) := psI ps_retN fun D σ H q => by
  obtain ⟨φ, O, ρ, fm, q⟩ := q
  exact q .non σ O H fm .refl (by unfold Dt; rfl)
/-- return x, x an own list -/
theorem ss_move (i : Nat) {x : Str} {p : Pos} (hN : X.N[i]? = some x := by rfl) (hv : Vis X.env.scope x := by first | exact Or.inl rfl | exact Or.inr (Or.inl rfl) | exact Or.inr (Or.inr rfl)) (hd : (x == ("__debug__" : Str)) = false := by decide)
    (hcd : (x == ("__classdict__" : Str)) = false := by decide) : PS X (.Return (some (.Name x p)) pos) (tS X.K W (moveM i)) := psI (ps_ret (pe_var (i := i) hN hv hd hcd)) fun D σ H q => by
  obtain ⟨φ, O, ρ, fm, q⟩ := q
  unfold sfin at q
  rw [show moveM i ρ = moveR i ρ ρ[i]? from rfl] at q
  cases e : ρ[i]? with
  | none => rw [e] at q; exact q.elim
  | some s =>
    rw [e] at q
    have z := fm.slot i s e
    cases s with
    | no => exact q.elim
    | dat d => exact q.elim
    | iox j0 d => exact q.elim
    | own d =>
      obtain ⟨a, ev, oa, n0, ow⟩ := z
      refine ⟨_, ev, q _ σ O H ?_ .refl ⟨a, rfl, oa, n0, ?_, ?_, ow⟩⟩
      · have w := fm.wipe1 (i := i) (x := some (.ref a))
        have es : σ.set i (some (.ref a)) = σ := by
          apply List.ext_getElem?
          intro j
          rw [List.getElem?_set]
          split
          · rename_i z
            subst z
            split
            · exact ev.symm
            · rename_i hl
              rw [List.getElem?_eq_none (by simpa using hl)] at ev; cases ev
          · rfl
        rw [es] at w
        exact w
      · intro j s ej m z
        have h1 : i ≠ j := fun q => by
          subst q
          rw [List.getElem?_set] at ej
          split at ej
          · split at ej
            · cases ej; exact m
            · cases ej
          · exact absurd rfl ‹_›
        rw [List.getElem?_set_ne h1] at ej
        exact fm.uniq i j _ s h1 e ej trivial m (ev.trans z.symm)
      · cases z : φ.pr a with
        | none => rfl
        | some u => exact absurd ev ((fm.prot a u z).2.2 i _ e trivial)
theorem ss_expr (he : PE X e (tE X.K W f)) (hs : swapsWith e none pos.line X.env = pure false := by rfl) : PS X (.Expr e pos) (tS X.K W (dropM f)) := psI (ps_expr he hs) fun D σ H q => by
  obtain ⟨φ, O, ρ, fm, q⟩ := q
  exact tX_mono (sfin_bind (rel := rD X.K) fm q) fun v H1 ⟨O1, ρ1, d, f1, s1, r1, q⟩ => q σ O1 H1 f1 .refl
theorem ss_if {c : Expr} {a b : List Stmt} {tc : Mo Bool} {m1 m2 : Mo Out} (hc : PT X c (tT X.K W tc)) (ha : PSs X a (tS X.K W m1)) (hb : PSs X b (tS X.K W m2)) : PS X (.If c a b pos) (tS X.K W (ifM tc m1 m2)) := psI (ps_if hc ha hb) fun D σ H q => by
  obtain ⟨φ, O, ρ, fm, q⟩ := q
  refine tX_mono (sfin_bind (rel := rB) fm q) fun v H1 ⟨O1, ρ1, d, f1, s1, r1, q⟩ => ?_
  have e : d = v := r1
  subst e
  cases d with
  | true => exact ⟨φ, O1, ρ1, f1, q⟩
  | false => exact ⟨φ, O1, ρ1, f1, q⟩
theorem ss_pass : PS X (.Pass pos) (tS X.K W (pure .nx)) := psI ps_pass fun D σ H ⟨φ, O, ρ, f, q⟩ => q σ O H f .refl
theorem ss_cont : PS X (.Continue pos) (tS X.K W (pure .ct)) := psI ps_continue fun D σ H ⟨φ, O, ρ, f, q⟩ => q σ O H f .refl
theorem ss_brk : PS X (.Break pos) (tS X.K W (pure .bk)) := psI ps_break fun D σ H ⟨φ, O, ρ, f, q⟩ => q σ O H f .refl
/-! ### tests -/
def andT (f g : Mo Bool) : Mo Bool := f >>= fun c => if c = true then g else pure false
def orT (f g : Mo Bool) : Mo Bool := f >>= fun c => if c = true then pure true else g
def notT (f : Mo Bool) : Mo Bool := f >>= fun c => pure (!c)
variable {c a b : Expr} {g h : Mo Bool} {rest : List Expr}
theorem sw_and1 (ha : PT X a (tT X.K W g)) : PW X (.BoolOp .And [a] pos) (tT X.K W g) := pw_and1 ha
theorem sw_or1 (ha : PT X a (tT X.K W g)) : PW X (.BoolOp .Or [a] pos) (tT X.K W g) := pw_or1 ha
theorem sw_and (ha : PT X a (tT X.K W g)) (hb : PW X (.BoolOp .And (b :: rest) pos) (tT X.K W h)) : PW X (.BoolOp .And (a :: b :: rest) pos) (tT X.K W (andT g h)) := pwI (pw_and ha hb) fun σ H Q q => by
  obtain ⟨φ, O, ρ, fm, q⟩ := q
  refine tX_mono (fin_bind (rel := rB) fm q) fun v H1 ⟨O1, ρ1, d, f1, s1, r1, q⟩ => ?_
  have e : d = v := r1
  subst e
  cases d with
  | true => exact ⟨φ, O1, ρ1, f1, q⟩
  | false => exact q false O1 H1 f1 .refl rfl
theorem sw_or (ha : PT X a (tT X.K W g)) (hb : PW X (.BoolOp .Or (b :: rest) pos) (tT X.K W h)) : PW X (.BoolOp .Or (a :: b :: rest) pos) (tT X.K W (orT g h)) := pwI (pw_or ha hb) fun σ H Q q => by
  obtain ⟨φ, O, ρ, fm, q⟩ := q
  refine tX_mono (fin_bind (rel := rB) fm q) fun v H1 ⟨O1, ρ1, d, f1, s1, r1, q⟩ => ?_
  have e : d = v := r1
  subst e
  cases d with
  | true => exact q true O1 H1 f1 .refl rfl
  | false => exact ⟨φ, O1, ρ1, f1, q⟩
theorem st_w (h : PW X e (tT X.K W g)) : PT X e (tT X.K W g) := h.pt
theorem st_not (ha : PT X a (tT X.K W g)) : PT X (.UnaryOp .Not a pos) (tT X.K W (notT g)) := ptI (pt_not ha) fun σ H Q q => by
  obtain ⟨φ, O, ρ, fm, q⟩ := q
  refine tX_mono (fin_bind (rel := rB) fm q) fun v H1 ⟨O1, ρ1, d, f1, s1, r1, q⟩ => ?_
  have e : d = v := r1
  subst e
  exact q _ O1 H1 f1 .refl rfl
/-- a value by its truth -/
def dTru : D → Option Bool
  | .non => some false
  | .bl b => some b
  | .int i => some (i != 0)
  | .str x => if x.length ≤ sizeLine then some ((x.length : Int) != 0) else none
  | .lst ds => some (!ds.isEmpty)
  | .tup ds => some (!ds.isEmpty)
  | _ => none
def truT (f : Mo Pl) : Mo Bool := do
  let p ← f
  let d ← look p
  Mo.lift (dTru d)
theorem isEmpty_len {α β : Type} {xs : List α} {ys : List β} (h : xs.length = ys.length) : xs.isEmpty = ys.isEmpty := by
  cases xs <;> cases ys <;> first | rfl | (simp at h)
theorem tru_lk {K : PySem.W.Frag} {O : Ow} {H : Hp} {d : D} {v : V} {b : Bool} (l : Lk K O H d v) (h : dTru d = some b) : TruV K v H b := by
  cases d with
  | non => unfold Lk Dt at l; subst l; cases h; rfl
  | bl c => unfold Lk Dt at l; subst l; cases h; rfl
  | int i => unfold Lk Dt at l; subst l; cases h; rfl
  | str x =>
    unfold Lk Dt at l; subst l
    unfold dTru at h
    dsimp only at h
    split at h
    · cases h; exact ⟨‹_›, rfl⟩
    · cases h
  | lst ds =>
    obtain ⟨a, xs, rfl, hl, q⟩ := l
    cases h
    exact .inl ⟨xs, SqL.of hl, by rw [isEmpty_len (dtAll_len q)]⟩
  | tup ds =>
    unfold Lk Dt at l
    obtain ⟨a, xs, rfl, hl, q⟩ := l
    cases h
    exact .inr (.inl ⟨xs, hl.sq, by rw [isEmpty_len (dtAll_len q)]⟩)
  | dct kvs => cases h
  | obj _ _ => cases h
  | scr _ => cases h
  | kls _ => cases h
  | err _ => cases h
  | exn _ => cases h
  | exc _ _ => cases h
  | dtk _ => cases h
  | ktu _ => cases h
theorem st_tru {f : Mo Pl} (ha : PE X a (tP X.K W f)) (he : ∀ whole, isTrue a X.env whole = (do let v ← whole; standAt a.pos; holding [v] (truthy v)) := by intro _; rfl) : PT X a (tT X.K W (truT f)) := ptI (pt_truth ha he) fun σ H Q q => by
  obtain ⟨φ, O, ρ, fm, q⟩ := q
  refine tX_mono (fin_bind (rel := rP X.K) fm q) fun v H1 ⟨O1, ρ1, p, f1, s1, r1, q⟩ => ?_
  obtain ⟨d, l, q⟩ := fin_look f1 (rP_ok r1) q
  obtain ⟨b, e, q⟩ := fin_lift q
  exact ⟨b, tru_lk l e, q b O1 H1 f1 .refl rfl⟩
/-- bools: and, or, not as values -/
def andV (f g : Mo D) : Mo D := f >>= fun d => match d with
  | .bl true => g
  | .bl false => pure (.bl false)
  | _ => fun _ => .no
def orV (f g : Mo D) : Mo D := f >>= fun d => match d with
  | .bl true => pure (.bl true)
  | .bl false => g
  | _ => fun _ => .no
def notV (f : Mo Bool) : Mo D := f >>= fun b => pure (.bl (!b))
variable {ma mb : Mo D}
theorem se_one {op} (h : PE X a (tE X.K W ma)) : PE X (.BoolOp op [a] pos) (tE X.K W ma) := pe_one h
theorem se_and (ha : PE X a (tE X.K W ma)) (hb : PE X (.BoolOp .And (b :: rest) pos) (tE X.K W mb)) : PE X (.BoolOp .And (a :: b :: rest) pos) (tE X.K W (andV ma mb)) := peI (pe_and ha hb) fun σ H Q q => by
  obtain ⟨φ, O, ρ, fm, q⟩ := q
  refine tX_mono (fin_bind (rel := rD X.K) fm q) fun v H1 ⟨O1, ρ1, d, f1, s1, r1, q⟩ => ?_
  cases d with
  | bl c =>
    have e : v = .bl c := by unfold rD Dt at r1; exact r1
    refine ⟨c, e, ?_⟩
    cases c with
    | true => exact ⟨φ, O1, ρ1, f1, q⟩
    | false => exact q _ O1 H1 f1 .refl (by unfold rD Dt; rfl)
  | _ => exact q.elim
theorem se_or (ha : PE X a (tE X.K W ma)) (hb : PE X (.BoolOp .Or (b :: rest) pos) (tE X.K W mb)) : PE X (.BoolOp .Or (a :: b :: rest) pos) (tE X.K W (orV ma mb)) := peI (pe_or ha hb) fun σ H Q q => by
  obtain ⟨φ, O, ρ, fm, q⟩ := q
  refine tX_mono (fin_bind (rel := rD X.K) fm q) fun v H1 ⟨O1, ρ1, d, f1, s1, r1, q⟩ => ?_
  cases d with
  | bl c =>
    have e : v = .bl c := by unfold rD Dt at r1; exact r1
    refine ⟨c, e, ?_⟩
    cases c with
    | true => exact q _ O1 H1 f1 .refl (by unfold rD Dt; rfl)
    | false => exact ⟨φ, O1, ρ1, f1, q⟩
  | _ => exact q.elim
/-- a test as a value: not, in a bool's place -/
theorem se_notB (ha : PE X a (tE X.K W ma)) : PE X (.UnaryOp .Not a pos) (tE X.K W (notV (testM ma))) := peI (pe_not ha) fun σ H Q q => by
  obtain ⟨φ, O, ρ, fm, q⟩ := q
  have q' : tX X.K W rB (testM ma) σ H fun k H1 => Q (.bl (!k)) H1 := by
    refine tX_mono (fin_bind (rel := rB) fm q) fun v H1 ⟨O1, ρ1, d, f1, s1, r1, q⟩ => ?_
    have e : d = v := r1
    subst e
    exact q _ O1 H1 f1 .refl (by unfold rD Dt; rfl)
  exact tst q'
def ifV (c : Mo Bool) (f g : Mo D) : Mo D := c >>= fun t => if t = true then f else g
theorem se_ifx {tc : Mo Bool} (hc : PT X c (tT X.K W tc)) (ha : PE X a (tE X.K W ma)) (hb : PE X b (tE X.K W mb)) : PE X (.IfExp c a b pos) (tE X.K W (ifV tc ma mb)) := peI (pe_ifExp hc ha hb) fun σ H Q q => by
  obtain ⟨φ, O, ρ, fm, q⟩ := q
  refine tX_mono (fin_bind (rel := rB) fm q) fun v H1 ⟨O1, ρ1, d, f1, s1, r1, q⟩ => ?_
  have e : d = v := r1
  subst e
  cases d with
  | true => exact ⟨φ, O1, ρ1, f1, q⟩
  | false => exact ⟨φ, O1, ρ1, f1, q⟩
/-- an expression whose value is a bool, as a test -/
theorem st_val (h : PE X e (tE X.K W f)) (he : ∀ whole, isTrue e X.env whole = (do let v ← whole; standAt e.pos; holding [v] (truthy v)) := by intro _; rfl) : PT X e (tT X.K W (testM f)) := ptI (pt_val h he) fun σ H Q q => tst q
/-! ### arguments -/
def consP (f : Mo Pl) (g : Mo (List Pl)) : Mo (List Pl) := do
  let p ← f
  let r ← g
  pure (p :: r)
def consD (f : Mo D) (g : Mo (List D)) : Mo (List D) := do
  let p ← f
  let r ← g
  pure (p :: r)
variable {es : List Expr}
theorem plAll_step {K : PySem.W.Frag} {O O' : Ow} {H H' : Hp} {σ : L2.St} (s : Stp O H O' H') : ∀ {ps : List Pl} {vs : List V}, PlAll K σ O H ps vs → PlAll K σ O' H' ps vs
  | [], _, h => h
  | p :: ps, _, ⟨x, r, e, h1, h2⟩ => ⟨x, r, e, pl_step s h1, plAll_step s h2⟩
theorem spa_nil : PA X [] (tPs X.K W (pure [])) := paI pa_nil fun σ H Q ⟨φ, O, ρ, f, q⟩ => q [] O H f .refl rfl
theorem spa_cons {f : Mo Pl} {g : Mo (List Pl)} (ha : PE X e (tP X.K W f)) (hr : PA X es (tPs X.K W g)) (hs : starEach (e :: es) X.env = (false, eval e X.env) :: starEach es X.env := by rfl) : PA X (e :: es) (tPs X.K W (consP f g)) := paI (pa_cons ha hr hs) fun σ H Q q => by
  obtain ⟨φ, O, ρ, fm, q⟩ := q
  refine tX_mono (fin_bind (rel := rP X.K) fm q) fun v H1 ⟨O1, ρ1, p, f1, s1, r1, q⟩ => ?_
  refine tX_mono (fin_bind (rel := rPs X.K) f1 q) fun vs H2 ⟨O2, ρ2, ps, f2, s2, r2, q⟩ => ?_
  exact q (v :: vs) O2 H2 f2 .refl ⟨v, vs, rfl, pl_step s2 (rP_ok r1), r2⟩
theorem sda_nil : PA X [] (tA X.K W (pure [])) := paI pa_nil fun σ H Q ⟨φ, O, ρ, f, q⟩ => q [] O H f .refl (by unfold rA DtAll; rfl)
theorem sda_cons {g : Mo (List D)} (ha : PE X e (tE X.K W f)) (hr : PA X es (tA X.K W g)) (hs : starEach (e :: es) X.env = (false, eval e X.env) :: starEach es X.env := by rfl) : PA X (e :: es) (tA X.K W (consD f g)) := paI (pa_cons ha hr hs) fun σ H Q q => by
  obtain ⟨φ, O, ρ, fm, q⟩ := q
  refine tX_mono (fin_bind (rel := rD X.K) fm q) fun v H1 ⟨O1, ρ1, p, f1, s1, r1, q⟩ => ?_
  refine tX_mono (fin_bind (rel := rA X.K) f1 q) fun vs H2 ⟨O2, ρ2, ps, f2, s2, r2, q⟩ => ?_
  exact q (v :: vs) O2 H2 f2 .refl (by unfold rA DtAll; exact ⟨v, vs, rfl, Dt.step s2 _ _ r1, r2⟩)
/-! ### tuples, lists -/
def lim {α : Type} (xs : List α) : Option Unit := if xs.length ≤ sizeLine then some () else none
def tupM (g : Mo (List D)) : Mo D := do
  let ds ← g
  let _ ← Mo.lift (lim ds)
  pure (.tup ds)
def lstM (g : Mo (List D)) : Mo D := do
  let ds ← g
  let _ ← Mo.lift (lim ds)
  pure (.lst ds)
theorem lim_ok {α : Type} {xs : List α} {u : Unit} (h : lim xs = some u) : xs.length ≤ sizeLine := by
  unfold lim at h
  split at h
  · assumption
  · cases h
theorem fin_lim {K : PySem.W.Frag} {φ : Fx} {O : Ow} {ρ : List Sl} {σ : L2.St} {H : Hp} {γ δ α : Type} {rel2 : Rl γ δ} {o : Option α} {k : α → Mo γ} {Q : δ → Hp → Prop} (q : fin K W rel2 φ (Mo.lift o >>= k) σ O ρ H Q) : ∃ a, o = some a ∧ fin K W rel2 φ (k a) σ O ρ H Q := by
  cases o with
  | none => exact q.elim
  | some a => exact ⟨a, rfl, q⟩
theorem se_tup {g : Mo (List D)} {x1} (h : PA X es (tA X.K W g)) : PE X (.Tuple es x1 pos) (tE X.K W (tupM g)) := peI (pe_tup h) fun σ H Q q => by
  obtain ⟨φ, O, ρ, fm, q⟩ := q
  refine tX_mono (fin_bind (rel := rA X.K) fm q) fun vs H1 ⟨O1, ρ1, ds, f1, s1, r1, q⟩ => ?_
  obtain ⟨_, e, q⟩ := fin_lim q
  have hl := dtAll_len r1
  refine ⟨by rw [← hl]; exact lim_ok e, fun p hp => ?_⟩
  refine q _ O1 _ (f1.ext (Ext.new hp)) (Ext.new hp).stp ?_
  have np : ¬ O1 p := fun z => by
    obtain ⟨o, ho⟩ := f1.here p z
    rw [hp] at ho; cases ho
  unfold rD Dt
  exact ⟨p, vs, rfl, .inl ⟨np, upd_same⟩, DtAll.step (Ext.new hp).stp _ _ r1⟩
theorem sf_lst {g : Mo (List D)} (h : PA X es (tA X.K W g)) : PE X (.List es pos) (tF X.K W (lstM g)) := peI (pe_lst h) fun σ H Q q => by
  obtain ⟨φ, O, ρ, fm, q⟩ := q
  refine tX_mono (fin_bind (rel := rA X.K) fm q) fun vs H1 ⟨O1, ρ1, ds, f1, s1, r1, q⟩ => ?_
  obtain ⟨_, e, q⟩ := fin_lim q
  have hl := dtAll_len r1
  refine ⟨by rw [← hl]; exact lim_ok e, fun p hp => ?_⟩
  refine q _ (plus O1 p) _ (f1.new hp) (stp_new hp) ⟨p, rfl, .inr rfl, f1.h0 hp, f1.noslot hp, f1.pr0 hp, ⟨vs, upd_same, DtAll.step (stp_new hp) _ _ r1⟩⟩
end
end VS

namespace VS
variable {gf : Bool}
open PySem PySem.Spec PyProof.Rows L2
/-! ### the heap behind a call, a change -/
def retag : Sl → D → Sl
  | .own _, d => .own d
  | .iox j _, d => .iox j d
  | s, _ => s
theorem retag_mine {s : Sl} {d : D} (m : s.mine) : (retag s d).mine := by cases s <;> first | exact m | trivial
section
variable {K : PySem.W.Frag} {φ : Fx} {O O' : Ow} {ρ : List Sl} {σ : L2.St} {H H' : Hp}
theorem Fm.own_at {i : Nat} {s : Sl} (f : Fm K φ O ρ σ H) (e : ρ[i]? = some s) (m : s.mine) : ∃ a d, σ[i]? = some (some (.ref a)) ∧ O a ∧ Own K O H d a ∧ (s = .own d ∨ ∃ j, s = .iox j d) := by
  have q := f.slot i s e
  cases s with
  | own d => obtain ⟨a, ev, o, n, q⟩ := q; exact ⟨a, d, ev, o, q, .inl rfl⟩
  | iox j0 d => obtain ⟨a, _, ev, o, q⟩ := q; exact ⟨a, d, ev, o, q, .inr ⟨j0, rfl⟩⟩
  | no => exact m.elim
  | dat d => exact m.elim
theorem Fm.call0 (f : Fm K φ O ρ σ H) (x : Ext H H') (s : Stp O H O' H') (sub : ∀ a, O a → O' a) (here : ∀ a, O' a → ∃ o, H' a = some o) : Fm K φ O' ρ σ H' := by
  refine ⟨f.len, here, fun a z => sub a (f.oc a z), f.ocs, f.aoc, fun b o z e => x _ _ (f.kept b o z e), fun i t e => (f.slot i t e).step s fun m a ha => ?_, f.uniq, fun b o z => ⟨sub b (f.prot b o z).1, x _ _ (f.prot b o z).2.1, (f.prot b o z).2.2⟩⟩
  obtain ⟨a', d, e', oa, _⟩ := f.own_at e m
  rw [ha] at e'; cases e'
  obtain ⟨u, hu⟩ := f.here a oa
  exact ⟨sub a oa, (x _ _ hu).trans hu.symm⟩
theorem Fm.call1 {i : Nat} {t : Sl} {p : Addr} {d' : D} (f : Fm K φ O ρ σ H) (e : ρ[i]? = some t) (m : t.mine) (es : σ[i]? = some (some (.ref p))) (kp : ∀ b o, b ≠ p → H b = some o → H' b = some o)
    (s : Stp O H O' H') (sub : ∀ a, O a → O' a) (here : ∀ a, O' a → ∃ o, H' a = some o) (hn : Own K O' H' d' p) : Fm K φ O' (ρ.set i (retag t d')) σ H' := by
  have op : O p ∧ (φ.H0 p = none ∨ p ∈ φ.ai) := by
    have q := f.slot i t e
    cases t with
    | own d => obtain ⟨a, e', o', n, q⟩ := q; rw [es] at e'; cases e'; exact ⟨o', .inl n⟩
    | iox j0 d => obtain ⟨a, e0, e', o', q⟩ := q; rw [es] at e'; cases e'; exact ⟨o', .inr (List.mem_of_getElem? e0)⟩
    | no => exact m.elim
    | dat d => exact m.elim
  refine ⟨by rw [List.length_set, f.len], here, fun a z => sub a (f.oc a z), f.ocs, f.aoc, fun b u z q => ?_, fun j u ej => ?_, fun j k s' t' n e1 e2 m1 m2 => ?_, fun b u z => ?_⟩
  · refine kp _ _ (fun w => ?_) (f.kept b u z q)
    subst w
    rcases op.2 with h | h
    · rw [h] at q; cases q
    · exact z h
  · by_cases hj : i = j
    · subst hj
      rw [List.getElem?_set_self (List.getElem?_eq_some_iff.mp e).1] at ej
      cases ej
      have q := f.slot i t e
      cases t with
      | own d => obtain ⟨a, e', o', n, q⟩ := q; rw [es] at e'; cases e'; exact ⟨p, es, sub _ o', n, hn⟩
      | iox j0 d => obtain ⟨a, e0, e', o', q⟩ := q; rw [es] at e'; cases e'; exact ⟨p, e0, es, sub _ o', hn⟩
      | no => exact m.elim
      | dat d => exact m.elim
    · rw [List.getElem?_set_ne hj] at ej
      refine (f.slot j u ej).step s fun mu a ha => ?_
      obtain ⟨a', d, e', oa, _⟩ := f.own_at ej mu
      rw [ha] at e'; cases e'
      have ne : a ≠ p := fun z => f.uniq i j t u hj e ej m mu (by rw [es, ha, z])
      obtain ⟨w, hw⟩ := f.here a oa
      exact ⟨sub a oa, (kp _ _ ne hw).trans hw.symm⟩
  · have mi : ∀ (k : Nat) (u : Sl), (ρ.set i (retag t d'))[k]? = some u → u.mine → ∃ u' : Sl, ρ[k]? = some u' ∧ u'.mine := fun k u ek mu => by
      by_cases hk : i = k
      · subst hk; exact ⟨t, e, m⟩
      · rw [List.getElem?_set_ne hk] at ek; exact ⟨u, ek, mu⟩
    obtain ⟨s1, f1, g1⟩ := mi j s' e1 m1
    obtain ⟨s2, f2, g2⟩ := mi k t' e2 m2
    exact f.uniq j k s1 s2 n f1 f2 g1 g2
  · have z' := f.prot b u z
    have ne : b ≠ p := fun w => absurd es (by rw [← w]; exact z'.2.2 i t e m)
    exact ⟨sub b z'.1, kp _ _ ne z'.2.1, z'.2.2.chg e fun _ => m⟩
theorem stp_kp {p : Addr} (op : O p) (kp : ∀ b o, b ≠ p → H b = some o → H' b = some o) : Stp O H O H' := ⟨fun b o n e => kp b o (fun z => n (by rw [z]; exact op)) e, fun b z => .inl z⟩
theorem here_kp {p : Addr} {o : HO} (f : ∀ a, O a → ∃ o, H a = some o) (kp : ∀ b o, b ≠ p → H b = some o → H' b = some o) (hp : H' p = some o) : ∀ a, O a → ∃ o, H' a = some o := fun a z => by
  by_cases q : a = p
  · subst q; exact ⟨_, hp⟩
  · obtain ⟨u, hu⟩ := f a z
    exact ⟨u, kp _ _ q hu⟩
theorem kp_upd {p : Addr} {o : HO} : ∀ b u, b ≠ p → H b = some u → (upd H p o) b = some u := fun b u n e => (upd_ne n).trans e
end
/-! ### calls of one's own defs -/
def FoM : Fo → Mo D
  | .no => fun _ => .no
  | .ok r _ => pure r
  | .ex e _ => fun ρ => .ex e ρ
def callM (F : FF) (g : Mo (List D)) : Mo D := g >>= fun ds => FoM (F none ds)
def ioR (i : Nat) (F : FF) (ds : List D) (ρ : List Sl) : Option Sl → Rs D
  | some (.own d) => match F (some d) ds with
    | .ok r (some d') => .ok r (ρ.set i (.own d'))
    | .ex e (some d') => .ex e (ρ.set i (.own d'))
    | _ => .no
  | some (.iox j d) => match F (some d) ds with
    | .ok r (some d') => .ok r (ρ.set i (.iox j d'))
    | .ex e (some d') => .ex e (ρ.set i (.iox j d'))
    | _ => .no
  | _ => .no
/-- f(x, ..), x one's own, and changed -/
def callIo (i : Nat) (F : FF) (g : Mo (List D)) : Mo D := slotM i >>= fun _ => g >>= fun ds => fun ρ => ioR i F ds ρ ρ[i]?
theorem ioR_ok {i : Nat} {F : FF} {ds : List D} {ρ ρ' : List Sl} {t : Sl} {d r : D} (h : ioR i F ds ρ (some t) = .ok r ρ') (ht : t = .own d ∨ ∃ j, t = .iox j d) : ∃ d', F (some d) ds = .ok r (some d') ∧ ρ' = ρ.set i (retag t d') := by
  rcases ht with rfl | ⟨j, rfl⟩
  · have h' : (match F (some d) ds with
      | .ok r (some d') => Rs.ok r (ρ.set i (.own d'))
      | .ex e (some d') => Rs.ex e (ρ.set i (.own d'))
      | _ => Rs.no) = .ok r ρ' := h
    split at h'
    · cases h'; exact ⟨_, by assumption, rfl⟩
    · cases h'
    · cases h'
  · have h' : (match F (some d) ds with
      | .ok r (some d') => Rs.ok r (ρ.set i (.iox j d'))
      | .ex e (some d') => Rs.ex e (ρ.set i (.iox j d'))
      | _ => Rs.no) = .ok r ρ' := h
    split at h'
    · cases h'; exact ⟨_, by assumption, rfl⟩
    · cases h'
    · cases h'
theorem ioR_ex {i : Nat} {F : FF} {ds : List D} {ρ ρ' : List Sl} {t : Sl} {d : D} {x : Ex} (h : ioR i F ds ρ (some t) = .ex x ρ') (ht : t = .own d ∨ ∃ j, t = .iox j d) : ∃ d', F (some d) ds = .ex x (some d') ∧ ρ' = ρ.set i (retag t d') := by
  rcases ht with rfl | ⟨j, rfl⟩
  · have h' : (match F (some d) ds with
      | .ok r (some d') => Rs.ok r (ρ.set i (.own d'))
      | .ex e (some d') => Rs.ex e (ρ.set i (.own d'))
      | _ => Rs.no) = .ex x ρ' := h
    split at h'
    · cases h'
    · cases h'; exact ⟨_, by assumption, rfl⟩
    · cases h'
  · have h' : (match F (some d) ds with
      | .ok r (some d') => Rs.ok r (ρ.set i (.iox j d'))
      | .ex e (some d') => Rs.ex e (ρ.set i (.iox j d'))
      | _ => Rs.no) = .ex x ρ' := h
    split at h'
    · cases h'
    · cases h'; exact ⟨_, by assumption, rfl⟩
    · cases h'
section
variable {X : Cx} {W : WX} {k : Nat} {f : Addr} {fd : FuncData} {ps : List Str} {sp : Sp} {x : Str} {p pos : Pos} {e : Expr} {es : List Expr}
theorem run_fnG {pins : List (Addr × Obj)} {σ : L2.St} {H : Hp} {s : Shared} {Q : VK} {us : List Value} {vs : List V} (F : FnG X.prog X.w X.K X.mg X.base k f fd ps sp gf) (cn : Cn X W k gf) (hb : Binds X.K fd ps []) (I : Inv X pins σ H s) (r : Vals vs us)
    (h : sp vs H Q (WE W σ)) : wpAny (model X.prog X.w) X.A (call (.ref f) us) (EP X pins σ Q) X.xe s := by
  have many : us.length = ps.length := r.length.symm.trans (F.ar _ _ _ _ h)
  have bd := hb s us I.kIn (by rw [List.append_nil]; exact many)
  rw [List.append_nil] at bd
  refine wpAny_call (codeAny_mono (F.go X.A X.stack s H ⟨us, []⟩ us vs Q (WE W σ) cn.gu cn.rm I.env0 bd r h) fun res s' z => ?_)
  cases res with
  | error e => exact passAt cn.tk σ pins H s e s' I z
  | ok fl =>
    cases fl with
    | ret u => exact I.after z
    | next => exact z.elim
    | brk => exact z.elim
    | cont => exact z.elim
def tCG (sp : Sp) (W : WX) (t : TA) : TE := fun σ H Q => t σ H fun vs H1 => sp vs H1 Q (WE W σ)
theorem pe_callG {t : TA} (F : FnG X.prog X.w X.K X.mg X.base k f fd ps sp gf) (cn : Cn X W k gf) (hm : X.mg x = some (.ref f)) (hk : PySem.W.keepIn X.K (.ref f) = true) (hb : Binds X.K fd ps []) (ha : PA X (e :: es) t) (hg : Gl X x := by rfl)
    (hd : (x == ("__debug__" : Str)) = false := by decide) (he : starEach (e :: es) X.env = (false, eval e X.env) :: starEach es X.env := by rfl) (hpl : (backTo pos (starEach es X.env)).any (·.1) = false := by rfl) : PE X (.Call (.Name x p) (e :: es) [] pos) (tCG sp W t) := by
  refine ⟨fun pins s σ H Q I h => ?_⟩
  refine wpAny_Call_Name_kw (ld_glob I hg hm ?_ hd)
  exact PySem.W.callWith_K (h₀ := X.base) I.ok.mod.kin hk (thn (ha.run pos pins s σ H _ I h) fun us s1 ⟨vs, H1, I1, r, q⟩ => ⟨I1.kIn, run_fnG F cn hb I1 r q⟩) he hpl
theorem pe_callG0 (F : FnG X.prog X.w X.K X.mg X.base k f fd ps sp gf) (cn : Cn X W k gf) (hm : X.mg x = some (.ref f)) (hk : PySem.W.keepIn X.K (.ref f) = true) (hb : Binds X.K fd ps []) (hg : Gl X x := by rfl) (hd : (x == ("__debug__" : Str)) = false := by decide) :
    PE X (.Call (.Name x p) [] [] pos) (tCG sp W tNil) := by
  refine ⟨fun pins s σ H Q I h => ?_⟩
  refine wpAny_Call_Name_kw (ld_glob I hg hm ?_ hd)
  exact PySem.W.callWith_K0 I.kIn hk (run_fnG (us := []) F cn hb I .nil h)
/-- the promise at the caller's -/
theorem spf_call {K : PySem.W.Frag} {new : Bool} {n : Nat} {F : FF} {φ : Fx} {O : Ow} {ρ : List Sl} {σ : L2.St} {H : Hp} {ds : List D} {vs : List V} {Q : VK} {rel : Rl D V} (hrel : rel = if new = true then rF K else rD K) (hn : ds.length = n) (fm : Fm K φ O ρ σ H) (hd : DtAll K O H ds vs)
    (q : fin K W rel φ (FoM (F none ds)) σ O ρ H Q) : SpF K new n F vs H Q (WE W σ) := by
  subst hrel
  refine ⟨O, none, none, ds, vs, rfl, by rw [← hn, dtAll_len hd], fm.here, trivial, hd, ?_⟩
  cases e : F none ds with
  | no => rw [e] at q; exact q
  | ex x io' =>
    rw [e] at q
    intro c dd H' kp io xc
    have ex : Ext H H' := fun b o h => kp b o (fun z => by cases z) h
    exact q c dd O H' (fm.ext ex) ex.stp xc
  | ok r io' =>
    rw [e] at q
    intro v H' kp io h
    have ex : Ext H H' := fun b o h => kp b o (fun z => by cases z) h
    cases new with
    | false =>
      rw [if_neg (by decide)] at h
      exact q v O H' (fm.ext ex) ex.stp h
    | true =>
      rw [if_pos rfl] at h
      obtain ⟨a, rfl, na, ow, _⟩ := h
      have st : Stp O H (plus O a) H' := ⟨fun b o _ z => ex b o z, fun b z => z.elim .inl fun w => .inr (w ▸ na)⟩
      refine q _ (plus O a) H' (fm.call0 ex st (fun _ => .inl) fun b z => ?_) st ⟨a, rfl, .inr rfl, fm.h0 na, fm.noslot na, fm.pr0 na, ow⟩
      rcases z with z | z
      · exact (fm.here b z).imp fun o w => ex _ _ w
      · subst z; exact ow.some
variable {n : Nat}
theorem se_call {g : Mo (List D)} {F : FF} (Fn : FnG X.prog X.w X.K X.mg X.base k f fd ps (SpF X.K false n F) gf) (ar : ∀ ds, F none ds ≠ .no → ds.length = n) (cn : Cn X W k gf) (hm : X.mg x = some (.ref f)) (hk : PySem.W.keepIn X.K (.ref f) = true) (hb : Binds X.K fd ps []) (ha : PA X (e :: es) (tA X.K W g)) (hg : Gl X x := by rfl)
    (hd : (x == ("__debug__" : Str)) = false := by decide) (he : starEach (e :: es) X.env = (false, eval e X.env) :: starEach es X.env := by rfl) (hpl : (backTo pos (starEach es X.env)).any (·.1) = false := by rfl) : PE X (.Call (.Name x p) (e :: es) [] pos) (tE X.K W (callM F g)) := peI (pe_callG Fn cn hm hk hb ha hg hd he hpl) fun σ H Q q => by
  obtain ⟨φ, O, ρ, fm, q⟩ := q
  refine tX_mono (fin_bind (rel := rA X.K) fm q) fun vs H1 ⟨O1, ρ1, ds, f1, s1, r1, q⟩ => ?_
  exact spf_call (rel := rD X.K) rfl (ar ds fun z => by rw [z] at q; exact q) f1 r1 q
theorem sf_call {g : Mo (List D)} {F : FF} (Fn : FnG X.prog X.w X.K X.mg X.base k f fd ps (SpF X.K true n F) gf) (ar : ∀ ds, F none ds ≠ .no → ds.length = n) (cn : Cn X W k gf) (hm : X.mg x = some (.ref f)) (hk : PySem.W.keepIn X.K (.ref f) = true) (hb : Binds X.K fd ps []) (ha : PA X (e :: es) (tA X.K W g)) (hg : Gl X x := by rfl)
    (hd : (x == ("__debug__" : Str)) = false := by decide) (he : starEach (e :: es) X.env = (false, eval e X.env) :: starEach es X.env := by rfl) (hpl : (backTo pos (starEach es X.env)).any (·.1) = false := by rfl) : PE X (.Call (.Name x p) (e :: es) [] pos) (tF X.K W (callM F g)) := peI (pe_callG Fn cn hm hk hb ha hg hd he hpl) fun σ H Q q => by
  obtain ⟨φ, O, ρ, fm, q⟩ := q
  refine tX_mono (fin_bind (rel := rA X.K) fm q) fun vs H1 ⟨O1, ρ1, ds, f1, s1, r1, q⟩ => ?_
  exact spf_call (rel := rF X.K) rfl (ar ds fun z => by rw [z] at q; exact q) f1 r1 q
end
end VS

namespace VS
variable {gf : Bool}
open PySem PySem.Spec PyProof.Rows L2
/-! ### defs by their arity -/
def f0 (g : Fo) : FF := fun io ds => match io, ds with
  | none, [] => g
  | _, _ => .no
def f1 (g : D → Fo) : FF := fun io ds => match io, ds with
  | none, [a] => g a
  | _, _ => .no
def f2 (g : D → D → Fo) : FF := fun io ds => match io, ds with
  | none, [a, b] => g a b
  | _, _ => .no
def f3 (g : D → D → D → Fo) : FF := fun io ds => match io, ds with
  | none, [a, b, c] => g a b c
  | _, _ => .no
def u0 (g : D → Fo) : FF := fun io ds => match io, ds with
  | some u, [] => g u
  | _, _ => .no
def u1 (g : D → D → Fo) : FF := fun io ds => match io, ds with
  | some u, [a] => g u a
  | _, _ => .no
def u2 (g : D → D → D → Fo) : FF := fun io ds => match io, ds with
  | some u, [a, b] => g u a b
  | _, _ => .no
/-- how many arguments -/
def Ar (F : FF) (u : Bool) (n : Nat) : Prop := ∀ io ds, F io ds ≠ .no → io.isSome = u ∧ ds.length = n
theorem ar_f0 {g : Fo} : Ar (f0 g) false 0 := fun io ds h => by
  unfold f0 at h
  split at h
  · exact ⟨rfl, rfl⟩
  · exact absurd rfl h
theorem ar_f1 {g : D → Fo} : Ar (f1 g) false 1 := fun io ds h => by
  unfold f1 at h
  split at h
  · exact ⟨rfl, rfl⟩
  · exact absurd rfl h
theorem ar_f2 {g : D → D → Fo} : Ar (f2 g) false 2 := fun io ds h => by
  unfold f2 at h
  split at h
  · exact ⟨rfl, rfl⟩
  · exact absurd rfl h
theorem ar_f3 {g : D → D → D → Fo} : Ar (f3 g) false 3 := fun io ds h => by
  unfold f3 at h
  split at h
  · exact ⟨rfl, rfl⟩
  · exact absurd rfl h
theorem ar_u0 {g : D → Fo} : Ar (u0 g) true 0 := fun io ds h => by
  unfold u0 at h
  split at h
  · exact ⟨rfl, rfl⟩
  · exact absurd rfl h
theorem ar_u1 {g : D → D → Fo} : Ar (u1 g) true 1 := fun io ds h => by
  unfold u1 at h
  split at h
  · exact ⟨rfl, rfl⟩
  · exact absurd rfl h
theorem ar_u2 {g : D → D → D → Fo} : Ar (u2 g) true 2 := fun io ds h => by
  unfold u2 at h
  split at h
  · exact ⟨rfl, rfl⟩
  · exact absurd rfl h
section
variable {X : Cx} {W : WX} {k : Nat} {f : Addr} {fd : FuncData} {ps : List Str} {x y : Str} {p p2 pos : Pos} {e : Expr} {es : List Expr}
theorem ioR_elim {i : Nat} {F : FF} {ds : List D} {ρ : List Sl} {t : Option Sl} (h : ioR i F ds ρ t ≠ .no) : ∃ s d, t = some s ∧ s.mine ∧ (s = .own d ∨ ∃ j, s = .iox j d) := by
  cases t with
  | none => exact absurd rfl h
  | some s => cases s with
    | no => exact absurd rfl h
    | dat d => exact absurd rfl h
    | own d => exact ⟨_, d, rfl, trivial, .inl rfl⟩
    | iox j0 d => exact ⟨_, d, rfl, trivial, .inr ⟨j0, rfl⟩⟩
theorem spf_callIo {K : PySem.W.Frag} {new : Bool} {n i : Nat} {F : FF} {φ : Fx} {O : Ow} {ρ : List Sl} {σ : L2.St} {H : Hp} {ds : List D} {vs : List V} {v0 : V} {Q : VK} {rel : Rl D V} (hrel : rel = if new = true then rF K else rD K) (hn : ds.length + 1 = n) (fm : Fm K φ O ρ σ H) (hd : DtAll K O H ds vs)
    (e0 : σ[i]? = some (some v0)) (q : fin K W rel φ (fun ρ => ioR i F ds ρ ρ[i]?) σ O ρ H Q) : SpF K new n F (v0 :: vs) H Q (WE W σ) := by
  subst hrel
  unfold fin at q
  dsimp only at q
  obtain ⟨s, d0, es, ms, hs⟩ := ioR_elim (i := i) (F := F) (ds := ds) (ρ := ρ) (t := ρ[i]?) (fun z => by rw [z] at q; exact q)
  rw [es] at q
  obtain ⟨a, d, ea, oa, ow, hd'⟩ := fm.own_at es ms
  have edd : d = d0 := by
    rcases hs with rfl | ⟨j, rfl⟩ <;> rcases hd' with z | ⟨j', z⟩ <;> cases z <;> rfl
  subst edd
  have e0' := e0
  rw [ea] at e0'
  cases e0'
  obtain ⟨o0, ho0⟩ := ow.some
  refine ⟨O, some a, some d, ds, vs, rfl, by rw [← hn, List.length_cons, dtAll_len hd], fm.here, ⟨oa, ow⟩, hd, ?_⟩
  have kpO : ∀ {H' : Hp}, (∀ b o, (some a : Option Addr) ≠ some b → H b = some o → H' b = some o) → ∀ b o, b ≠ a → H b = some o → H' b = some o := fun kp b o n h => kp b o (fun z => n (Option.some.inj z).symm) h
  have step : ∀ {io' : Option D} {H' : Hp}, (∀ b o, (some a : Option Addr) ≠ some b → H b = some o → H' b = some o) → IoOk K O H' (some a) io' → ∃ d', io' = some d' ∧ Fm K φ O (ρ.set i (retag s d')) σ H' ∧ Stp O H O H' ∧ Own K O H' d' a := by
    intro io' H' kp io
    cases io' with
    | none => exact io.elim
    | some d' =>
      obtain ⟨_, ow'⟩ := io
      obtain ⟨o', ho'⟩ := ow'.some
      have st := stp_kp (H' := H') oa (kpO kp)
      exact ⟨d', rfl, fm.call1 es ms ea (kpO kp) st (fun _ z => z) (here_kp fm.here (kpO kp) ho') ow', st, ow'⟩
  cases ef : F (some d) ds with
  | no =>
    rcases hs with rfl | ⟨j, rfl⟩
    · have z : ioR i F ds ρ (some (.own d)) = .no := by
        show (match F (some d) ds with
          | .ok r (some d') => Rs.ok r (ρ.set i (.own d'))
          | .ex e (some d') => Rs.ex e (ρ.set i (.own d'))
          | _ => Rs.no) = .no
        rw [ef]
      rw [z] at q; exact q
    · have z : ioR i F ds ρ (some (.iox j d)) = .no := by
        show (match F (some d) ds with
          | .ok r (some d') => Rs.ok r (ρ.set i (.iox j d'))
          | .ex e (some d') => Rs.ex e (ρ.set i (.iox j d'))
          | _ => Rs.no) = .no
        rw [ef]
      rw [z] at q; exact q
  | ex xx io' =>
    intro c dd H' kp io xc
    obtain ⟨d', rfl, f1, s1, _⟩ := step kp io
    have z : ioR i F ds ρ (some s) = .ex xx (ρ.set i (retag s d')) := by
      rcases hs with rfl | ⟨j, rfl⟩
      · show (match F (some d) ds with
          | .ok r (some d') => Rs.ok r (ρ.set i (.own d'))
          | .ex e (some d') => Rs.ex e (ρ.set i (.own d'))
          | _ => Rs.no) = _
        rw [ef]; rfl
      · show (match F (some d) ds with
          | .ok r (some d') => Rs.ok r (ρ.set i (.iox j d'))
          | .ex e (some d') => Rs.ex e (ρ.set i (.iox j d'))
          | _ => Rs.no) = _
        rw [ef]; rfl
    rw [z] at q
    exact q c dd O H' f1 s1 xc
  | ok r io' =>
    intro v H' kp io h
    obtain ⟨d', rfl, f1, s1, ow'⟩ := step kp io
    have z : ioR i F ds ρ (some s) = .ok r (ρ.set i (retag s d')) := by
      rcases hs with rfl | ⟨j, rfl⟩
      · show (match F (some d) ds with
          | .ok r (some d') => Rs.ok r (ρ.set i (.own d'))
          | .ex e (some d') => Rs.ex e (ρ.set i (.own d'))
          | _ => Rs.no) = _
        rw [ef]; rfl
      · show (match F (some d) ds with
          | .ok r (some d') => Rs.ok r (ρ.set i (.iox j d'))
          | .ex e (some d') => Rs.ex e (ρ.set i (.iox j d'))
          | _ => Rs.no) = _
        rw [ef]; rfl
    rw [z] at q
    cases new with
    | false =>
      rw [if_neg (by decide)] at h
      exact q v O H' f1 s1 h
    | true =>
      rw [if_pos rfl] at h
      obtain ⟨b, rfl, nb, owb, ⟨_, own'⟩⟩ := h
      have nba : b ≠ a := fun w => by subst w; rw [nb] at ho0; cases ho0
      have st : Stp O H (plus O b) H' := ⟨fun c o n z => s1.kp c o n z, fun c z => z.elim .inl fun w => .inr (w ▸ nb)⟩
      obtain ⟨ob, hob⟩ := owb.some
      have here' : ∀ c, plus O b c → ∃ o, H' c = some o := fun c z => by
        rcases z with z | z
        · exact f1.here c z
        · subst z; exact ⟨_, hob⟩
      -- the changed one, with b beside
      have f2 := fm.call1 es ms ea (kpO kp) st (fun _ z => .inl z) here' own'
      refine q _ (plus O b) H' f2 st ⟨b, rfl, .inr rfl, fm.h0 nb, ?_, fm.pr0 nb, owb⟩
      exact (fm.noslot nb).chg es fun _ => ms
theorem sva {i : Nat} {g : Mo (List D)} (hN : X.N[i]? = some y := by rfl) (hv : Vis X.env.scope y := by first | exact Or.inl rfl | exact Or.inr (Or.inl rfl) | exact Or.inr (Or.inr rfl)) (ha : PA X es (tA X.K W g)) (hs : starEach (.Name y p2 :: es) X.env = (false, eval (.Name y p2) X.env) :: starEach es X.env := by rfl) (hd : (y == ("__debug__" : Str)) = false := by decide)
    (hcd : (y == ("__classdict__" : Str)) = false := by decide) : PA X (.Name y p2 :: es) (tCons (tVar i) (tA X.K W g)) := pa_cons (pe_var (i := i) hN hv hd hcd) ha hs
theorem callIo_ok {i : Nat} {K : PySem.W.Frag} {F : FF} {g : Mo (List D)} {new : Bool} {n : Nat} {rel : Rl D V} (hrel : rel = if new = true then rF K else rD K) (ar : Ar F true n) {σ : L2.St} {H : Hp} {Q : VK} (q : tX K W rel (callIo i F g) σ H Q) :
    tCG (SpF K new (n + 1) F) W (tCons (tVar i) (tA K W g)) σ H Q := by
  obtain ⟨φ, O, ρ, fm, q⟩ := q
  unfold fin callIo at q
  rw [bind_eq, show slotM i ρ = slotR i ρ ρ[i]? from rfl] at q
  have sl : ∃ v0, σ[i]? = some (some v0) ∧ slotR i ρ ρ[i]? = .ok (.slot i) ρ := by
    cases e : ρ[i]? with
    | none => rw [e] at q; exact q.elim
    | some s =>
      have z := fm.slot i s e
      cases s with
      | no => rw [e] at q; exact q.elim
      | dat d => obtain ⟨v, ev, _⟩ := z; exact ⟨v, ev, rfl⟩
      | own d => obtain ⟨v, ev, _⟩ := z; exact ⟨_, ev, rfl⟩
      | iox j0 d => obtain ⟨v, _, ev, _⟩ := z; exact ⟨_, ev, rfl⟩
  obtain ⟨v0, e0, es⟩ := sl
  rw [es] at q
  refine ⟨v0, e0, ?_⟩
  refine tX_mono (fin_bind (rel := rA K) (rel2 := rel) (Q := Q) fm (m := g) (k := fun ds ρ => ioR i F ds ρ ρ[i]?) q) fun vs H1 ⟨O1, ρ1, ds, f1, s1, r1, q⟩ => ?_
  refine spf_callIo hrel ?_ f1 r1 e0 q
  have ne : ioR i F ds ρ1 ρ1[i]? ≠ .no := fun z => by
    unfold fin at q
    dsimp only at q
    rw [z] at q
    exact q
  obtain ⟨s, d, _, _, hs⟩ := ioR_elim ne
  have := ar (some d) ds fun z => ne (by
    rename_i e1 _
    rw [e1]
    rcases hs with rfl | ⟨j, rfl⟩
    · show (match F (some d) ds with
          | .ok r (some d') => Rs.ok r (ρ1.set i (.own d'))
          | .ex e (some d') => Rs.ex e (ρ1.set i (.own d'))
          | _ => Rs.no) = _
      rw [z]
    · show (match F (some d) ds with
          | .ok r (some d') => Rs.ok r (ρ1.set i (.iox j d'))
          | .ex e (some d') => Rs.ex e (ρ1.set i (.iox j d'))
          | _ => Rs.no) = _
      rw [z])
  rw [this.2]
section
variable {g : Mo (List D)} {F : FF} {n : Nat} {W : WX}
theorem se_callU (i : Nat) (Fn : FnG X.prog X.w X.K X.mg X.base k f fd ps (SpF X.K false (n + 1) F) gf) (ar : Ar F true n) (cn : Cn X W k gf) (hm : X.mg x = some (.ref f)) (hk : PySem.W.keepIn X.K (.ref f) = true) (hb : Binds X.K fd ps []) (ha : PA X (.Name y p2 :: es) (tCons (tVar i) (tA X.K W g))) (hg : Gl X x := by rfl)
    (hd : (x == ("__debug__" : Str)) = false := by decide) (he : starEach (.Name y p2 :: es) X.env = (false, eval (.Name y p2) X.env) :: starEach es X.env := by rfl) (hpl : (backTo pos (starEach es X.env)).any (·.1) = false := by rfl) : PE X (.Call (.Name x p) (.Name y p2 :: es) [] pos) (tE X.K W (callIo i F g)) :=
  peI (pe_callG Fn cn hm hk hb ha hg hd he hpl) fun σ H Q q => callIo_ok (new := false) rfl ar q
theorem sf_callU (i : Nat) (Fn : FnG X.prog X.w X.K X.mg X.base k f fd ps (SpF X.K true (n + 1) F) gf) (ar : Ar F true n) (cn : Cn X W k gf) (hm : X.mg x = some (.ref f)) (hk : PySem.W.keepIn X.K (.ref f) = true) (hb : Binds X.K fd ps []) (ha : PA X (.Name y p2 :: es) (tCons (tVar i) (tA X.K W g))) (hg : Gl X x := by rfl)
    (hd : (x == ("__debug__" : Str)) = false := by decide) (he : starEach (.Name y p2 :: es) X.env = (false, eval (.Name y p2) X.env) :: starEach es X.env := by rfl) (hpl : (backTo pos (starEach es X.env)).any (·.1) = false := by rfl) : PE X (.Call (.Name x p) (.Name y p2 :: es) [] pos) (tF X.K W (callIo i F g)) :=
  peI (pe_callG Fn cn hm hk hb ha hg hd he hpl) fun σ H Q q => callIo_ok (new := true) rfl ar q
end
end
end VS

namespace VS
variable {gf : Bool}
open PySem PySem.Spec PyProof.Rows L2
/-! ### what is walked -/
def Srv (K : PySem.W.Frag) (O : Ow) (H : Hp) (ds : List D) (J : It) : Prop := ∀ O' H', Stp O H O' H' → (∀ a, O' a → ∃ o, H' a = some o) → ∀ i,
  (∀ d, ds[i]? = some d → J.go i H' ∧ ∀ x H2, J.yld i H' x H2 → Ext H' H2 ∧ Dt K O' H2 d x) ∧ (i = ds.length → J.stop i H')
def rIt (K : PySem.W.Frag) : Rl (List D) It := fun _ _ O H _ ds J => Srv K O H ds J
abbrev tI (K : PySem.W.Frag) (W : WX) (m : Mo (List D)) : TI := tX K W (rIt K) m
theorem piI {X : Cx} {tg e : Expr} {t t' : TI} (h : PI X tg e t) (i : ∀ σ H Q, t' σ H Q → t σ H Q) : PI X tg e t' := ⟨fun pins s σ H Q I q => h.run pins s σ H Q I (i σ H Q q)⟩
/-- a text's signs, as texts -/
def signs (x : Str) : List D := x.cps.toList.map fun c => D.str ⟨#[c]⟩
def dItems : D → Option (List D)
  | .lst ds => some ds
  | .tup ds => some ds
  | .str x => some (signs x)
  | _ => none
def itemsM (f : Mo D) : Mo (List D) := f >>= fun d => Mo.lift (dItems d)
section
variable {X : Cx} {W : WX} {tg e : Expr} {f : Mo D} {pos p : Pos}
theorem srv_list {K : PySem.W.Frag} {O : Ow} {H : Hp} {ds : List D} {a : Addr} {xs : List V} (n : ¬ O a) (h : H a = some (.lst xs)) (q : DtAll K O H ds xs) : Srv K O H ds (Itl K a) := fun O' H' s _ i => by
  obtain ⟨n', h'⟩ := s.keep n h
  have q' := DtAll.step s _ _ q
  refine ⟨fun d e => ?_, fun e => ⟨xs, SqL.of h', by rw [e, dtAll_len q]; exact Nat.le_refl _⟩⟩
  obtain ⟨v, ev, dv⟩ := dtAll_get q' e
  refine ⟨⟨xs, v, SqL.of h', ev⟩, fun x H2 y => ?_⟩
  obtain ⟨rfl, y⟩ := y
  have := y xs (SqL.of h')
  rw [ev] at this; cases this
  exact ⟨.refl, dv⟩
theorem srv_tup {K : PySem.W.Frag} {O : Ow} {H : Hp} {ds : List D} {a : Addr} {xs : List V} (h : TpAt K O H a xs) (q : DtAll K O H ds xs) : Srv K O H ds (Itt K a) := fun O' H' s _ i => by
  have h' := h.step s
  have q' := DtAll.step s _ _ q
  refine ⟨fun d e => ?_, fun e => ⟨xs, h'.sq, by rw [e, dtAll_len q]; exact Nat.le_refl _⟩⟩
  obtain ⟨v, ev, dv⟩ := dtAll_get q' e
  refine ⟨⟨xs, v, h'.sq, ev⟩, fun x H2 y => ?_⟩
  obtain ⟨rfl, y⟩ := y
  have := y xs h'.sq
  rw [ev] at this; cases this
  exact ⟨.refl, dv⟩
theorem signs_get {x : Str} {i : Nat} {d : D} (e : (signs x)[i]? = some d) : ∃ c, x.cps[i]? = some c ∧ d = .str ⟨#[c]⟩ := by
  unfold signs at e
  rw [List.getElem?_map] at e
  cases q : x.cps.toList[i]? with
  | none => rw [q] at e; cases e
  | some c =>
    rw [q] at e
    cases e
    exact ⟨c, by simpa using q, rfl⟩
theorem srv_str {K : PySem.W.Frag} {O : Ow} {H : Hp} {x : Str} : Srv K O H (signs x) (Its x) := fun O' H' s _ i => by
  refine ⟨fun d e => ?_, fun e => ?_⟩
  · obtain ⟨c, ec, rfl⟩ := signs_get e
    refine ⟨(Array.getElem?_eq_some_iff.mp ec).1, fun v H2 y => ?_⟩
    obtain ⟨rfl, c', e', rfl⟩ := y
    rw [ec] at e'; cases e'
    exact ⟨.refl, by unfold Dt; rfl⟩
  · subst e
    show x.cps.size ≤ (signs x).length
    unfold signs
    simp
theorem fin_bindE {α β γ δ : Type} {K : PySem.W.Frag} {W : WX} {φ : Fx} {rel : Rl α β} {rel2 : Rl γ δ} {m : Mo α} {k : α → Mo γ} {σ : L2.St} {O : Ow} {ρ ρ1 : List Sl} {H : Hp} {a : α} {Q : δ → Hp → Prop} (f : Fm K φ O ρ σ H) (e : m ρ = .ok a ρ1) (h : fin K W rel2 φ (m >>= k) σ O ρ H Q) :
    tX K W rel m σ H (fun v H1 => ∃ O1, Fm K φ O1 ρ1 σ H1 ∧ Stp O H O1 H1 ∧ rel φ σ O1 H1 ρ1 a v ∧ fin K W rel2 φ (k a) σ O1 ρ1 H1 Q) := by
  have z := fin_bind (rel := rel) f h
  refine ⟨φ, O, ρ, f, ?_⟩
  unfold fin at h ⊢
  rw [bind_eq, e] at h
  rw [e]
  dsimp only at h ⊢
  intro v O1 H1 f1 s1 r1
  refine ⟨O1, f1, s1, r1, ?_⟩
  have h' : (match k a ρ1 with
        | .no => False
        | .ok c ρ' => ∀ v O' H', Fm K φ O' ρ' σ H' → Stp O H O' H' → rel2 φ σ O' H' ρ' c v → Q v H'
        | .ex e ρ' => ∀ c dd O' H', Fm K φ O' ρ' σ H' → Stp O H O' H' → Xc K O' H' e c dd → W c dd σ H') := h
  cases hk : k a ρ1 with
  | no => rw [hk] at h'; exact h'
  | ok c ρ2 => rw [hk] at h'; exact fun v2 O2 H2 f2 s2 r2 => h' v2 O2 H2 f2 (s1.trans s2) r2
  | ex x ρ2 => rw [hk] at h'; exact fun c dd O2 H2 f2 s2 r2 => h' c dd O2 H2 f2 (s1.trans s2) r2
theorem fin_bindX {α β γ δ : Type} {K : PySem.W.Frag} {W : WX} {φ : Fx} {rel : Rl α β} {rel2 : Rl γ δ} {m : Mo α} {k : α → Mo γ} {σ : L2.St} {O : Ow} {ρ ρ1 : List Sl} {H : Hp} {x : Ex} {Q : δ → Hp → Prop} {Q' : β → Hp → Prop} (f : Fm K φ O ρ σ H) (e : m ρ = .ex x ρ1) (h : fin K W rel2 φ (m >>= k) σ O ρ H Q) : tX K W rel m σ H Q' := by
  refine ⟨φ, O, ρ, f, ?_⟩
  unfold fin at h ⊢
  rw [bind_eq, e] at h
  rw [e]
  exact h
/-- a list, a tuple, a text -/
theorem si_seq (h : PE X e (tE X.K W f)) : PI X tg e (tI X.K W (itemsM f)) := by
  refine ⟨fun pins s σ H R I q => ?_⟩
  obtain ⟨φ, O, ρ, fm, q⟩ := q
  cases hf : f ρ with
  | no =>
    unfold fin itemsM at q
    rw [bind_eq, hf] at q
    exact q.elim
  | ex x ρ1 => exact (pi_list (tg := tg) h).run pins s σ H R I (fin_bindX (rel := rD X.K) fm hf q)
  | ok d ρ1 =>
    have b := fin_bindE (rel := rD X.K) fm hf q
    cases d with
    | lst ds =>
      refine (pi_list (tg := tg) h).run pins s σ H R I (tX_mono b fun v H1 ⟨O1, f1, s1, r1, q1⟩ => ?_)
      unfold rD Dt at r1
      obtain ⟨a, xs, rfl, n, ha, qa⟩ := r1
      exact ⟨a, rfl, ⟨xs, SqL.of ha⟩, q1 _ O1 H1 f1 .refl (srv_list n ha qa)⟩
    | tup ds =>
      refine (pi_tup (tg := tg) h).run pins s σ H R I (tX_mono b fun v H1 ⟨O1, f1, s1, r1, q1⟩ => ?_)
      unfold rD Dt at r1
      obtain ⟨a, xs, rfl, ha, qa⟩ := r1
      exact ⟨a, rfl, ⟨xs, ha.sq⟩, q1 _ O1 H1 f1 .refl (srv_tup ha qa)⟩
    | str x =>
      refine (pi_str (tg := tg) h).run pins s σ H R I (tX_mono b fun v H1 ⟨O1, f1, s1, r1, q1⟩ => ?_)
      have e : v = .str x := by unfold rD Dt at r1; exact r1
      exact ⟨x, e, q1 _ O1 H1 f1 .refl srv_str⟩
    | _ =>
      unfold fin itemsM at q
      rw [bind_eq, hf] at q
      exact q.elim
def upTo (lo : Int) (n : Nat) : List D := (List.range n).map fun (i : Nat) => D.int (lo + i)
def dRng1 : List D → Option (List D)
  | [.int j] => if -(2 ^ 62) ≤ j ∧ j < 2 ^ 62 then some (upTo 0 j.toNat) else none
  | _ => none
def dRng2 : List D → Option (List D)
  | [.int i, .int j] => if -(2 ^ 62) ≤ i ∧ i < 2 ^ 62 ∧ -(2 ^ 62) ≤ j ∧ j < 2 ^ 62 then some (upTo i (j - i).toNat) else none
  | _ => none
theorem srv_rng {K : PySem.W.Frag} {O : Ow} {H : Hp} {lo : Int} {n : Nat} : Srv K O H (upTo lo n) (Itr lo n) := fun O' H' s _ i => by
  have hl : (upTo lo n).length = n := by unfold upTo; simp
  refine ⟨fun d e => ?_, fun e => ?_⟩
  · have hi : i < n := by rw [← hl]; exact (List.getElem?_eq_some_iff.mp e).1
    unfold upTo at e
    rw [List.getElem?_map, List.getElem?_range hi] at e
    cases e
    refine ⟨hi, fun x H2 y => ?_⟩
    obtain ⟨rfl, rfl⟩ := y
    exact ⟨.refl, by unfold Dt; rfl⟩
  · show n ≤ i
    omega
def rngM1 (f : Mo (List D)) : Mo (List D) := f >>= fun ds => Mo.lift (dRng1 ds)
def rngM2 (f : Mo (List D)) : Mo (List D) := f >>= fun ds => Mo.lift (dRng2 ds)
theorem si_range1 {a : Expr} {f : Mo (List D)} (hm : X.mg "range" = none) (ha : PA X [a] (tA X.K W f)) (hg : Gl X "range" := by rfl) (hs : starEach [a] X.env = [(false, eval a X.env)] := by rfl) : PI X tg (.Call (.Name "range" p) [a] [] pos) (tI X.K W (rngM1 f)) :=
  piI (pi_range1 hg hm ha hs) fun σ H R q => by
    obtain ⟨φ, O, ρ, fm, q⟩ := q
    refine tX_mono (fin_bind (rel := rA X.K) fm q) fun vs H1 ⟨O1, ρ1, ds, f1, s1, r1, q1⟩ => ?_
    obtain ⟨xs, e, q1⟩ := fin_lift q1
    have r1' : DtAll X.K O1 H1 ds vs := r1
    unfold dRng1 at e
    split at e
    · rename_i j
      unfold DtAll at r1'
      obtain ⟨x, r, rfl, h1, h2⟩ := r1'
      unfold DtAll at h2
      subst h2
      unfold Dt at h1
      subst h1
      split at e
      · cases e
        rename_i hj
        exact ⟨j, rfl, hj.1, hj.2, q1 _ O1 H1 f1 .refl srv_rng⟩
      · cases e
    · cases e
theorem si_range2 {a b : Expr} {f : Mo (List D)} (hm : X.mg "range" = none) (ha : PA X [a, b] (tA X.K W f)) (hg : Gl X "range" := by rfl) (hs : starEach [a, b] X.env = [(false, eval a X.env), (false, eval b X.env)] := by rfl) (hs2 : starEach [b] X.env = [(false, eval b X.env)] := by rfl) :
    PI X tg (.Call (.Name "range" p) [a, b] [] pos) (tI X.K W (rngM2 f)) :=
  piI (pi_range2 hg hm ha hs hs2) fun σ H R q => by
    obtain ⟨φ, O, ρ, fm, q⟩ := q
    refine tX_mono (fin_bind (rel := rA X.K) fm q) fun vs H1 ⟨O1, ρ1, ds, f1, s1, r1, q1⟩ => ?_
    obtain ⟨xs, e, q1⟩ := fin_lift q1
    have r1' : DtAll X.K O1 H1 ds vs := r1
    unfold dRng2 at e
    split at e
    · rename_i i j
      unfold DtAll at r1'
      obtain ⟨x, r, rfl, h1, h2⟩ := r1'
      unfold DtAll at h2
      obtain ⟨y, r2, rfl, h3, h4⟩ := h2
      unfold DtAll at h4
      subst h4
      unfold Dt at h1 h3
      subst h1 h3
      split at e
      · cases e
        rename_i hj
        exact ⟨i, j, rfl, hj, q1 _ O1 H1 f1 .refl srv_rng⟩
      · cases e
    · cases e
/-! ### targets -/
theorem wipe_comm {σ : L2.St} {i : Nat} {x : Option V} : ∀ {vs : List Nat}, i ∉ vs → wipe (σ.set i x) vs = (wipe σ vs).set i x
  | [], _ => rfl
  | v :: vs, h => by
    unfold wipe
    rw [wipe_comm (fun z => h (List.mem_cons_of_mem _ z)), List.set_comm _ _ (fun z => h (by rw [z]; exact List.mem_cons_self))]
theorem wipe_set {σ : L2.St} {i : Nat} {x : Option V} : ∀ {vs : List Nat}, i ∈ vs → wipe (σ.set i x) vs = wipe σ vs
  | v :: vs, h => by
    unfold wipe
    by_cases hv : i ∈ vs
    · rw [wipe_set hv]
    · have e : i = v := (List.mem_cons.mp h).elim id fun z => absurd z hv
      subst e
      rw [wipe_comm hv, List.set_set]
abbrev Tm := D → List Sl → Option (List Sl)
abbrev Tms := List D → List Sl → Option (List Sl)
def TSem (K : PySem.W.Frag) (g : TG) (is : List Nat) (tm : Tm) : Prop := ∀ (φ : Fx) (O : Ow) (ρ ρ' : List Sl) (σ : L2.St) (H : Hp) (d : D) (v : V) (Q : L2.St → Hp → Prop), Fm K φ O ρ σ H → Dt K O H d v → tm d ρ = some ρ' →
  (∀ σ', Fm K φ O ρ' σ' H → (∀ vs, (∀ i ∈ is, i ∈ vs) → wipe σ' vs = wipe σ vs) → Q σ' H) → g v σ H Q
def TsSem (K : PySem.W.Frag) (g : TGs) (is : List Nat) (tm : Tms) : Prop := ∀ (φ : Fx) (O : Ow) (ρ ρ' : List Sl) (σ : L2.St) (H : Hp) (d : List D) (v : List V) (Q : L2.St → Hp → Prop), Fm K φ O ρ σ H → DtAll K O H d v → tm d ρ = some ρ' →
  (∀ σ', Fm K φ O ρ' σ' H → (∀ vs, (∀ i ∈ is, i ∈ vs) → wipe σ' vs = wipe σ vs) → Q σ' H) → g v σ H Q
@[simp] def tgN (i : Nat) : Tm := fun d ρ => some (ρ.set i (.dat d))
def tgNil : Tms := fun ds ρ => match ds with
  | [] => some ρ
  | _ :: _ => none
def tgCons (t : Tm) (ts : Tms) : Tms := fun ds ρ => match ds with
  | d :: ds => (t d ρ).bind (ts ds)
  | [] => none
def tgT (n : Nat) (ts : Tms) : Tm := fun d ρ => match d with
  | .tup ds => if ds.length = n then ts ds ρ else none
  | _ => none
theorem sg_n {K : PySem.W.Frag} (i : Nat) : TSem K (gName i) [i] (tgN i) := fun φ O ρ ρ' σ H d v Q f r e q => by
  cases e
  exact q _ (f.put r) fun vs h => wipe_set (h i List.mem_cons_self)
theorem sg_nil {K : PySem.W.Frag} : TsSem K gNil [] tgNil := fun φ O ρ ρ' σ H ds vs Q f r e q => by
  cases ds with
  | nil =>
    unfold DtAll at r
    cases e
    exact ⟨r, q σ f fun _ _ => rfl⟩
  | cons d ds => cases e
theorem sg_cons {K : PySem.W.Frag} {g : TG} {gs : TGs} {is js : List Nat} {t : Tm} {ts : Tms} (h1 : TSem K g is t) (h2 : TsSem K gs js ts) : TsSem K (gCons g gs) (is ++ js) (tgCons t ts) := fun φ O ρ ρ' σ H ds vs Q f r e q => by
  cases ds with
  | nil => cases e
  | cons d ds =>
    unfold DtAll at r
    obtain ⟨x, r', rfl, ra, rb⟩ := r
    have e' : (t d ρ).bind (ts ds) = some ρ' := e
    cases e1 : t d ρ with
    | none => rw [e1] at e'; cases e'
    | some ρ1 =>
      rw [e1] at e'
      refine ⟨x, r', rfl, h1 φ O ρ ρ1 σ H d x _ f ra e1 fun σ1 f1 w1 => ?_⟩
      refine h2 φ O ρ1 ρ' σ1 H ds r' Q f1 rb e' fun σ2 f2 w2 => q σ2 f2 fun vs hv => ?_
      rw [w2 vs fun i hi => hv i (List.mem_append_right _ hi), w1 vs fun i hi => hv i (List.mem_append_left _ hi)]
theorem sg_tup {K : PySem.W.Frag} {gs : TGs} {is : List Nat} {n : Nat} {ts : Tms} (h : TsSem K gs is ts) : TSem K (gTup K n gs) is (tgT n ts) := fun φ O ρ ρ' σ H d v Q f r e q => by
  cases d with
  | tup ds =>
    have e' : (if ds.length = n then ts ds ρ else none) = some ρ' := e
    by_cases hn : ds.length = n
    · rw [if_pos hn] at e'
      unfold Dt at r
      obtain ⟨a, xs, rfl, ha, ra⟩ := r
      exact ⟨a, xs, rfl, ha.sq, by rw [← dtAll_len ra]; exact hn, h φ O ρ ρ' σ H ds xs Q f ra e' q⟩
    · rw [if_neg hn] at e'; cases e'
  | _ => cases e
def tgM (t : Tm) (d : D) : Mo Unit := fun ρ => match t d ρ with
  | none => .no
  | some ρ' => .ok () ρ'
theorem tgM_ok {t : Tm} {d : D} {ρ ρ' : List Sl} {u : Unit} (h : tgM t d ρ = .ok u ρ') : t d ρ = some ρ' := by
  unfold tgM at h
  split at h
  · cases h
  · cases h; assumption
theorem tgM_ex {t : Tm} {d : D} {ρ ρ' : List Sl} {x : Ex} : tgM t d ρ ≠ .ex x ρ' := fun h => by
  unfold tgM at h
  split at h <;> cases h
/-! ### for -/
def forL (t : Tm) (m : Mo Out) : List D → Mo Out
  | [] => pure .nx
  | d :: ds => tgM t d >>= fun _ => m >>= fun o => match o with
    | .nx => forL t m ds
    | .ct => forL t m ds
    | .bk => pure .nx
    | .rt d => pure (.rt d)
    | .rn d => pure (.rn d)
def forM (src : Mo (List D)) (t : Tm) (m : Mo Out) : Mo Out := src >>= forL t m
theorem drop_get {α : Type} {l : List α} {i : Nat} {x : α} (e : l[i]? = some x) : l.drop i = x :: l.drop (i + 1) := by
  obtain ⟨h, e'⟩ := List.getElem?_eq_some_iff.mp e
  rw [List.drop_eq_getElem_cons h, e']
theorem ss_for {W : WX} {k : Nat} {iter : Expr} {body : List Stmt} {g : TG} {is : List Nat} {t : Tm} {src : Mo (List D)} {m : Mo Out} (cn : Cn X W k gf) (hi : PI X tg iter (tI X.K W src)) (hg : PG X tg g) (hs : TSem X.K g is t) (hb : PSs X body (tS X.K W m))
    (hf : ∀ x, foldedSetIterable iter X.env x = pure x := by intro _; rfl) : PS X (.For tg iter body [] pos) (tS X.K W (forM src t m)) := psI (ps_for cn.po cn.cm hi hg hb hf) fun Dn σ H q => by
  obtain ⟨φ, O, ρ, fm, q⟩ := q
  refine tX_mono (sfin_bind (rel := rIt X.K) fm q) fun J H1 ⟨O1, ρ1, ds, f1, s1, sv, q⟩ => ?_
  refine ⟨fun i n σ' H' => n = ds.length - i ∧ i ≤ ds.length ∧ ∃ O' ρ', Fm X.K φ O' ρ' σ' H' ∧ Stp O1 H1 O' H' ∧ sfin X.K W φ (forL t m (ds.drop i)) O' ρ' H' σ' Dn, ⟨ds.length, rfl, Nat.zero_le _, O1, ρ1, f1, .refl, q⟩, ?_⟩
  rintro i n σ' H' ⟨rfl, hi, O', ρ', f', s', q'⟩
  obtain ⟨go, stop⟩ := sv O' H' s' f'.here i
  by_cases hl : i = ds.length
  · refine .inl ⟨stop hl, ?_⟩
    subst hl
    rw [List.drop_length] at q'
    exact q' σ' O' H' f' .refl
  · have hlt : i < ds.length := by omega
    obtain ⟨d, ed⟩ : ∃ d, ds[i]? = some d := ⟨_, List.getElem?_eq_getElem hlt⟩
    obtain ⟨gg, yl⟩ := go d ed
    refine .inr ⟨gg, fun σ2 H2 => ∃ O2 ρ2, Fm X.K φ O2 ρ2 σ2 H2 ∧ Stp O1 H1 O2 H2 ∧ sfin X.K W φ (forL t m (ds.drop (i + 1))) O2 ρ2 H2 σ2 Dn, fun σ2 H2 ⟨O2, ρ2, f2, s2, q2⟩ => ⟨ds.length - (i + 1), by omega, rfl, hlt, O2, ρ2, f2, s2, q2⟩, fun x H2 y => ?_⟩
    obtain ⟨ex, dx⟩ := yl x H2 y
    have f2 := f'.ext ex
    rw [drop_get ed] at q'
    have q2 := sfin_step (σ := σ') (σ0 := σ') (ex.stp (O := O')) q'
    unfold sfin at q2
    have e0 : forL t m (d :: ds.drop (i + 1)) = tgM t d >>= fun _ => m >>= fun o => match o with
      | .nx => forL t m (ds.drop (i + 1))
      | .ct => forL t m (ds.drop (i + 1))
      | .bk => pure .nx
      | .rt d => pure (.rt d)
      | .rn d => pure (.rn d) := rfl
    rw [e0, bind_eq] at q2
    cases e1 : tgM t d ρ' with
    | no => rw [e1] at q2; exact q2.elim
    | ex x ρ2 => exact absurd e1 tgM_ex
    | ok u ρ2 =>
      rw [e1] at q2
      refine hs φ O' ρ' ρ2 σ' H2 d x _ f2 dx (tgM_ok e1) fun σ2 f3 _ => ?_
      refine ⟨φ, O', ρ2, f3, ?_⟩
      have q3 : sfin X.K W φ (m >>= fun o => match o with
        | .nx => forL t m (ds.drop (i + 1))
        | .ct => forL t m (ds.drop (i + 1))
        | .bk => pure .nx
        | .rt d => pure (.rt d)
        | .rn d => pure (.rn d)) O' ρ2 H2 σ2 Dn := q2
      unfold sfin at q3 ⊢
      rw [bind_eq] at q3
      cases e2 : m ρ2 with
      | no => rw [e2] at q3; exact q3
      | ex x ρ3 => rw [e2] at q3; exact q3
      | ok o ρ3 =>
        rw [e2] at q3
        have sN : Stp O1 H1 O' H2 := s'.trans (ex.stp)
        cases o with
        | nx =>
          intro σ3 O3 H3 f4 s4
          exact ⟨O3, ρ3, f4, sN.trans s4, sfin_step (σ := σ3) (σ0 := σ2) s4 q3⟩
        | ct =>
          intro σ3 O3 H3 f4 s4
          exact ⟨O3, ρ3, f4, sN.trans s4, sfin_step (σ := σ3) (σ0 := σ2) s4 q3⟩
        | bk => exact q3
        | rt d => exact q3
        | rn d => exact q3
end
end VS

namespace VS
variable {gf : Bool}
open PySem PySem.Spec PyProof.Rows L2
/-! ### list comprehensions -/
@[simp] def wipeS (ρ : List Sl) : List Nat → List Sl
  | [] => ρ
  | v :: vs => (wipeS ρ vs).set v .no
theorem Fm.wipes {K : PySem.W.Frag} {φ : Fx} {O : Ow} {ρ : List Sl} {σ : L2.St} {H : Hp} (f : Fm K φ O ρ σ H) : ∀ vs : List Nat, Fm K φ O (wipeS ρ vs) (wipe σ vs) H
  | [] => f
  | v :: vs => (f.wipes vs).wipe1
/-- the block's own names hold nothing -/
def Wp (vs : List Nat) (ρ : List Sl) : Prop := ∀ (i : Nat) (s : Sl), i ∈ vs → ρ[i]? = some s → s = .no
theorem wp_wipeS {ρ : List Sl} : ∀ {vs : List Nat}, Wp vs (wipeS ρ vs)
  | [], _, _, h, _ => by cases h
  | v :: vs, i, s, h, e => by
    unfold wipeS at e
    rw [List.getElem?_set] at e
    split at e
    · split at e
      · exact (Option.some.inj e).symm
      · cases e
    · rename_i hv
      exact wp_wipeS i s ((List.mem_cons.mp h).elim (fun z => absurd z.symm hv) id) e
theorem Fm.unwipe {K : PySem.W.Frag} {φ : Fx} {O : Ow} {ρ : List Sl} {σ : L2.St} {H : Hp} {vs : List Nat} (f : Fm K φ O ρ (wipe σ vs) H) (w : Wp vs ρ) : Fm K φ O ρ σ H := by
  have same : ∀ (i : Nat) (s : Sl), ρ[i]? = some s → s ≠ .no → (wipe σ vs)[i]? = σ[i]? := fun i s e n => wipe_out fun hi => n (w i s hi e)
  have mn : ∀ s : Sl, s.mine → s ≠ .no := fun s m z => by subst z; exact m
  have ns : ∀ b, NoSlot b ρ (wipe σ vs) → NoSlot b ρ σ := fun b h i s e m => by
    rw [← same i s e (mn s m)]
    exact h i s e m
  refine ⟨by rw [f.len, wipe_length], f.here, f.oc, f.ocs, f.aoc, f.kept, fun i s e => ?_, fun i j s t n e1 e2 m1 m2 => ?_, fun b o h => ⟨(f.prot b o h).1, (f.prot b o h).2.1, ns b (f.prot b o h).2.2⟩⟩
  · have q := f.slot i s e
    cases s with
    | no => trivial
    | dat d => rw [same i _ e (by intro z; cases z)] at q; exact q
    | own d => rw [same i _ e (by intro z; cases z)] at q; exact q
    | iox j0 d => rw [same i _ e (by intro z; cases z)] at q; exact q
  · rw [← same i s e1 (mn s m1), ← same j t e2 (mn t m2)]
    exact f.uniq i j s t n e1 e2 m1 m2
/-- the items, one by one; vs: the block's own names; acc: what is made so far -/
def lcR (vs : List Nat) (t : Tm) (c : Mo Bool) (e : Mo D) : List D → List D → List Sl → Rs D
  | acc, [], ρ => .ok (.lst acc) ρ
  | acc, d :: ds, ρ => match t d ρ with
    | none => .no
    | some ρ2 => match c ρ2 with
      | .ok true ρ3 => match e ρ3 with
        | .ok x ρ4 => if acc.length < sizeLine then lcR vs t c e (acc ++ [x]) ds (wipeS ρ4 vs) else .no
        | _ => .no
      | .ok false ρ3 => lcR vs t c e acc ds (wipeS ρ3 vs)
      | _ => .no
def lcM (vs : List Nat) (src : Mo (List D)) (t : Tm) (c : Mo Bool) (e : Mo D) : Mo D := src >>= fun ds ρ => lcR vs t c e [] ds (wipeS ρ vs)
def noT : Mo Bool := pure true
theorem spts_nil {X : Cx} {W : WX} : PTs X [] (tT X.K W noT) := ⟨fun pins s σ H Q I ⟨φ, O, ρ, f, q⟩ => pts_nil.run pins s σ H Q I (q true O H f .refl rfl)⟩
theorem spts_one {X : Cx} {W : WX} {c : Expr} {m : Mo Bool} (h : PT X c (tT X.K W m)) : PTs X [c] (tT X.K W m) := pts_one h
theorem wipe_wipe {σ : L2.St} {vs : List Nat} : wipe (wipe σ vs) vs = wipe σ vs := by
  have gen : ∀ (ws : List Nat), (∀ i ∈ ws, i ∈ vs) → wipe (wipe σ ws) vs = wipe σ vs := by
    intro ws
    induction ws with
    | nil => intro _; rfl
    | cons w ws ih =>
      intro h
      show wipe ((wipe σ ws).set w none) vs = _
      rw [wipe_set (h w List.mem_cons_self)]
      exact ih fun i hi => h i (List.mem_cons_of_mem _ hi)
  exact gen vs fun _ h => h
theorem fin_step {α β : Type} {K : PySem.W.Frag} {W : WX} {φ : Fx} {rel : Rl α β} {m : Mo α} {σ : L2.St} {O O0 : Ow} {ρ : List Sl} {H H0 : Hp} {Q : β → Hp → Prop} (s : Stp O0 H0 O H) (h : fin K W rel φ m σ O0 ρ H0 Q) : fin K W rel φ m σ O ρ H Q := by
  unfold fin at h ⊢
  split at h
  · exact h
  · exact fun v O' H' a b c => h v O' H' a (s.trans b) c
  · exact fun v dd O' H' a b c => h v dd O' H' a (s.trans b) c
theorem lc_ok {K : PySem.W.Frag} {W : WX} {g : TG} {is : List Nat} {t : Tm} {src : Mo (List D)} {c : Mo Bool} {e : Mo D} {vs : List Nat} (hs : TSem K g is t) (hsub : ∀ i ∈ is, i ∈ vs) {σ : L2.St} {H : Hp} {Q : VK} (q : tX K W (rF K) (lcM vs src t c e) σ H Q) : tLc (tI K W src) g (tT K W0 c) (tE K W0 e) vs σ H Q := by
  obtain ⟨φ, O, ρ, fm, q⟩ := q
  refine tX_mono (fin_bind (rel := rIt K) fm q) fun J H1 ⟨O1, ρ1, ds, f1, s1, sv, q⟩ => ?_
  intro Dn hD
  have n0 := f1.h0 hD
  have p0 := f1.pr0 hD
  have fw := (f1.wipes vs).new (o := .lst []) hD
  have sD : Stp O1 H1 (plus O1 Dn) (upd H1 Dn (.lst [])) := stp_new hD
  refine ⟨fun i n H' => n = ds.length - i ∧ i ≤ ds.length ∧ ∃ O' ρ' acc xs, Fm K (φ.hold Dn (.lst xs)) O' ρ' (wipe σ vs) H' ∧ Wp vs ρ' ∧ Stp O1 H1 O' H' ∧ DtAll K O' H' acc xs ∧ fin K W (rF K) φ (lcR vs t c e acc (ds.drop i)) σ O' ρ' H' Q,
    ⟨ds.length, rfl, Nat.zero_le _, plus O1 Dn, wipeS ρ1 vs, [], [], fw.hold (.inr rfl) upd_same ?_, wp_wipeS, sD, by unfold DtAll; rfl, fin_step sD q⟩, ?_⟩
  · exact (f1.wipes vs).noslot hD
  rintro i n H' ⟨rfl, hi, O', ρ', acc, xs, f', wp, s', da, q'⟩
  obtain ⟨go, stop⟩ := sv O' H' s' f'.here i
  obtain ⟨oD, hD', nsD⟩ := f'.held
  by_cases hl : i = ds.length
  · refine .inl ⟨stop hl, ?_⟩
    subst hl
    rw [List.drop_length] at q'
    have f2 := (f'.free p0).unwipe wp
    refine q' _ O' H' f2 .refl ⟨Dn, rfl, oD, n0, ?_, p0, ⟨xs, hD', da⟩⟩
    -- no slot of one's own
    intro j s e m z
    refine nsD j s e m ?_
    rw [wipe_out fun hj => ?_]
    · exact z
    · have := wp j s hj e
      subst this
      exact m
  · have hlt : i < ds.length := by omega
    obtain ⟨d, ed⟩ : ∃ d, ds[i]? = some d := ⟨_, List.getElem?_eq_getElem hlt⟩
    obtain ⟨gg, yl⟩ := go d ed
    refine .inr ⟨gg, fun H2 => ∃ O2 ρ2 acc xs, Fm K (φ.hold Dn (.lst xs)) O2 ρ2 (wipe σ vs) H2 ∧ Wp vs ρ2 ∧ Stp O1 H1 O2 H2 ∧ DtAll K O2 H2 acc xs ∧ fin K W (rF K) φ (lcR vs t c e acc (ds.drop (i + 1))) σ O2 ρ2 H2 Q,
      fun H2 z => ⟨ds.length - (i + 1), by omega, rfl, hlt, z⟩, fun x H2 y => ?_⟩
    obtain ⟨ex, dx⟩ := yl x H2 y
    have f2 := f'.ext ex
    have s2 : Stp O1 H1 O' H2 := s'.trans ex.stp
    rw [drop_get ed] at q'
    have q2 := fin_step (ex.stp (O := O')) q'
    unfold fin at q2
    unfold lcR at q2
    cases e1 : t d ρ' with
    | none => rw [e1] at q2; exact q2.elim
    | some ρ2 =>
      rw [e1] at q2
      dsimp only at q2
      refine hs _ O' ρ' ρ2 _ H2 d x _ f2 dx e1 fun σ2 f3 w3 => ⟨(w3 vs hsub).trans wipe_wipe, ?_⟩
      have ew : wipe σ2 vs = wipe σ vs := (w3 vs hsub).trans wipe_wipe
      refine ⟨φ.hold Dn (.lst xs), O', ρ2, f3, ?_⟩
      unfold fin
      cases e2 : c ρ2 with
      | no => rw [e2] at q2; exact q2
      | ex _ _ => rw [e2] at q2; exact q2.elim
      | ok b ρ3 =>
        rw [e2] at q2
        intro b' O3 H3 f4 s4 eb
        have eb' : b = b' := eb
        subst eb'
        cases b with
        | false =>
          rw [if_neg (by decide)]
          have fw4 := f4.wipes vs
          rw [ew] at fw4
          exact ⟨O3, wipeS ρ3 vs, acc, xs, fw4, wp_wipeS, s2.trans s4, DtAll.step (ex.stp.trans s4) _ _ da, fin_step s4 q2⟩
        | true =>
          rw [if_pos rfl]
          refine ⟨φ.hold Dn (.lst xs), O3, ρ3, f4, ?_⟩
          unfold fin
          dsimp only at q2
          cases e3 : e ρ3 with
          | no => rw [e3] at q2; exact q2
          | ex _ _ => rw [e3] at q2; exact q2.elim
          | ok r ρ4 =>
            rw [e3] at q2
            dsimp only at q2
            intro v O4 H4 f5 s5 dv
            obtain ⟨oD5, hD5, _⟩ := f5.held
            have da5 := DtAll.step ((ex.stp.trans s4).trans s5) _ _ da
            have hlen := dtAll_len da
            by_cases hz : acc.length < sizeLine
            · rw [if_pos hz] at q2
              refine ⟨xs, hD5, by rw [← hlen]; exact hz, ?_⟩
              have sm : Stp O4 H4 O4 (upd H4 Dn (.lst (xs ++ [v]))) := stp_mut oD5
              have fw5 := (f5.pmut (o' := .lst (xs ++ [v])) n0).wipes vs
              rw [ew] at fw5
              have dv' : Dt K O4 H4 r v := dv
              refine ⟨O4, wipeS ρ4 vs, acc ++ [r], xs ++ [v], fw5, wp_wipeS, ((s2.trans s4).trans s5).trans sm, ?_, fin_step ((s4.trans s5).trans sm) q2⟩
              refine DtAll.step sm _ _ (dtAll_app da5 ?_)
              unfold DtAll
              exact ⟨v, [], rfl, dv', by unfold DtAll; rfl⟩
            · rw [if_neg hz] at q2
              exact q2.elim
section
variable {X : Cx} {W : WX} {k : Nat}
theorem sf_lc {elt tg iter : Expr} {ifs : List Expr} {scope : Scope} {own : List (Str × Nat)} {pos : Pos} {g : TG} {is : List Nat} {t : Tm} {src : Mo (List D)} {c : Mo Bool} {e : Mo D} (cn : Cn X W k gf) (hN : X.N.Nodup) (hi : PI X tg iter (tI X.K W src)) (ok : BlkOk X.N X.env.scope scope own)
    (hg : ∀ (s : Shared) (H : Hp) (C : Addr) (cl : List (Str × Addr)) (fp : List Addr), PG (X.blk s H scope (compEnvC scope cl C X.env) fp) tg g) (hs : TSem X.K g is t) (hsub : ∀ i ∈ is, i ∈ own.map (·.2))
    (ht : ∀ (s : Shared) (H : Hp) (C : Addr) (cl : List (Str × Addr)) (fp : List Addr), Cn (X.blk s H scope (compEnvC scope cl C X.env) fp) W0 k gf → PTs (X.blk s H scope (compEnvC scope cl C X.env) fp) ifs (tT X.K W0 c))
    (he : ∀ (s : Shared) (H : Hp) (C : Addr) (cl : List (Str × Addr)) (fp : List Addr), Cn (X.blk s H scope (compEnvC scope cl C X.env) fp) W0 k gf → PE (X.blk s H scope (compEnvC scope cl C X.env) fp) elt (tE X.K W0 e))
    (hf : ∀ x, foldedSetIterable iter X.env x = pure x := by intro _; rfl) : PE X (.ListComp elt [⟨tg, iter, ifs, 0⟩] scope pos) (tF X.K W (lcM (own.map (·.2)) src t c e)) :=
  peI (pe_lc cn.cm hN hi ok hg (fun s H C cl fp => ht s H C cl fp cn.blk) (fun s H C cl fp => he s H C cl fp cn.blk) hf) fun σ H Q q => lc_ok hs hsub q
/-- name = [..] on one line, the name a local -/
theorem ss_setLc (i : Nat) {y : Str} {py : Pos} {elt tg iter : Expr} {ifs : List Expr} {scope : Scope} {own : List (Str × Nat)} {pos spos : Pos} {g : TG} {is : List Nat} {t : Tm} {src : Mo (List D)} {c : Mo Bool} {e : Mo D} (cn : Cn X W k gf) (hN : X.N.Nodup) (hy : X.N[i]? = some y) (hyl : X.env.scope.names.lookup y = some .local)
    (hsw : swapsWith (.ListComp elt [⟨tg, iter, ifs, 0⟩] scope pos) (some (.Name y py)) spos.line X.env = pure true) (hi : PI X tg iter (tI X.K W src)) (ok : BlkOk X.N X.env.scope scope own)
    (hg : ∀ (s : Shared) (H : Hp) (C : Addr) (cl : List (Str × Addr)) (fp : List Addr), PG (X.blk s H scope (compEnvC scope cl C X.env) fp) tg g) (hs : TSem X.K g is t) (hsub : ∀ i ∈ is, i ∈ own.map (·.2))
    (ht : ∀ (s : Shared) (H : Hp) (C : Addr) (cl : List (Str × Addr)) (fp : List Addr), Cn (X.blk s H scope (compEnvC scope cl C X.env) fp) W0 k gf → PTs (X.blk s H scope (compEnvC scope cl C X.env) fp) ifs (tT X.K W0 c))
    (he : ∀ (s : Shared) (H : Hp) (C : Addr) (cl : List (Str × Addr)) (fp : List Addr), Cn (X.blk s H scope (compEnvC scope cl C X.env) fp) W0 k gf → PE (X.blk s H scope (compEnvC scope cl C X.env) fp) elt (tE X.K W0 e))
    (hf : ∀ x, foldedSetIterable iter X.env x = pure x := by intro _; rfl) : PS X (.Assign [.Name y py] (.ListComp elt [⟨tg, iter, ifs, 0⟩] scope pos) spos) (tS X.K W (setF i (lcM (own.map (·.2)) src t c e))) :=
  psI (ps_setLc (i := i) cn.cm hN hy hyl hsw hi ok hg (fun s H C cl fp => ht s H C cl fp cn.blk) (fun s H C cl fp => he s H C cl fp cn.blk) hf) fun Dn σ H q => lc_ok hs hsub (asgF_ok q)
end
end VS

namespace VS
open PySem PySem.Spec PyProof.Rows L2
/-! ### operators' meanings -/
theorem OpR.or2 {X : Cx} {f : Value → Value → Sem Value} {r r' : R2} (h : OpR X f r) (h' : OpR X f r') : OpR X f (fun x y H Q => r x y H Q ∨ r' x y H Q) := fun pins s σ H x y v u Q I rx ry q =>
  q.elim (h pins s σ H x y v u Q I rx ry) (h' pins s σ H x y v u Q I rx ry)
section
variable {K : PySem.W.Frag} {O : Ow} {H : Hp} {v : V}
theorem lk_int {i : Int} (l : Lk K O H (.int i) v) : v = .int i := by unfold Lk Dt at l; exact l
theorem lk_str {x : Str} (l : Lk K O H (.str x) v) : v = .str x := by unfold Lk Dt at l; exact l
theorem lk_bl {b : Bool} (l : Lk K O H (.bl b) v) : v = .bl b := by unfold Lk Dt at l; exact l
theorem lk_non (l : Lk K O H .non v) : v = .non := by unfold Lk Dt at l; exact l
theorem lk_tup {ds : List D} (l : Lk K O H (.tup ds) v) : ∃ a xs, v = .ref a ∧ TpAt K O H a xs ∧ DtAll K O H ds xs := by unfold Lk Dt at l; exact l
theorem lk_scr {ns : List Int} (l : Lk K O H (.scr ns) v) : ∃ a, v = .ref a ∧ SqL K H a (ns.map V.int) := by
  unfold Lk Dt at l
  obtain ⟨a, e, l⟩ := l
  refine ⟨a, e, ?_⟩
  rcases l with ⟨_, o, h⟩ | h
  · exact .inl (.inr ⟨o, h⟩)
  · exact .inr h
theorem dt_int {i : Int} : Dt K O H (.int i) (.int i) := by unfold Dt; rfl
theorem dt_str {i : Str} : Dt K O H (.str i) (.str i) := by unfold Dt; rfl
theorem dt_bl {i : Bool} : Dt K O H (.bl i) (.bl i) := by unfold Dt; rfl
theorem dt_non : Dt K O H .non .non := by unfold Dt; rfl
theorem dt_tup_new {p : Addr} {ds : List D} {xs : List V} (here : ∀ a, O a → ∃ o, H a = some o) (hp : H p = none) (q : DtAll K O H ds xs) : Dt K O (upd H p (.tup xs)) (.tup ds) (.ref p) := by
  unfold Dt
  refine ⟨p, xs, rfl, .inl ⟨fun z => ?_, upd_same⟩, q.step (Ext.new hp).stp⟩
  obtain ⟨o, e⟩ := here p z
  rw [hp] at e; cases e
theorem dt_lst_new {p : Addr} {ds : List D} {xs : List V} (here : ∀ a, O a → ∃ o, H a = some o) (hp : H p = none) (q : DtAll K O H ds xs) : Dt K O (upd H p (.lst xs)) (.lst ds) (.ref p) := by
  unfold Dt
  refine ⟨p, xs, rfl, fun z => ?_, upd_same, q.step (Ext.new hp).stp⟩
  obtain ⟨o, e⟩ := here p z
  rw [hp] at e; cases e
theorem dt_tup_old {p : Addr} {ds : List D} {xs : List V} (hp : TpAt K O H p xs) (q : DtAll K O H ds xs) : Dt K O H (.tup ds) (.ref p) := by
  unfold Dt
  exact ⟨p, xs, rfl, hp, q⟩
theorem dtAll_take : ∀ {ds : List D} {xs : List V} (n : Nat), DtAll K O H ds xs → DtAll K O H (ds.take n) (xs.take n)
  | ds, xs, 0, _ => by rw [List.take_zero, List.take_zero]; unfold DtAll; rfl
  | [], _, n + 1, h => by unfold DtAll at h; subst h; unfold DtAll; rfl
  | d :: ds, _, n + 1, h => by
    unfold DtAll at h
    obtain ⟨x, r, rfl, h1, h2⟩ := h
    rw [List.take_succ_cons, List.take_succ_cons]
    unfold DtAll
    exact ⟨x, _, rfl, h1, dtAll_take n h2⟩
theorem dtAll_drop : ∀ {ds : List D} {xs : List V} (n : Nat), DtAll K O H ds xs → DtAll K O H (ds.drop n) (xs.drop n)
  | ds, xs, 0, h => h
  | [], _, n + 1, h => by unfold DtAll at h; subst h; unfold DtAll; rfl
  | d :: ds, _, n + 1, h => by
    unfold DtAll at h
    obtain ⟨x, r, rfl, h1, h2⟩ := h
    exact dtAll_drop n h2
theorem dtAll_rep {ds : List D} {xs : List V} (h : DtAll K O H ds xs) : ∀ n, DtAll K O H (List.replicate n ds).flatten (List.replicate n xs).flatten
  | 0 => by unfold DtAll; rfl
  | n + 1 => by
    rw [List.replicate_succ, List.replicate_succ, List.flatten_cons, List.flatten_cons]
    exact dtAll_app h (dtAll_rep h n)
theorem dtAll_set : ∀ {ds : List D} {xs : List V} {d : D} {x : V} (i : Nat), DtAll K O H ds xs → Dt K O H d x → DtAll K O H (ds.set i d) (xs.set i x)
  | [], _, _, _, i, h, _ => by unfold DtAll at h; subst h; unfold DtAll; rfl
  | d :: ds, _, e, y, 0, h, g => by
    unfold DtAll at h
    obtain ⟨x, r, rfl, h1, h2⟩ := h
    rw [List.set_cons_zero, List.set_cons_zero]
    unfold DtAll
    exact ⟨y, r, rfl, g, h2⟩
  | d :: ds, _, e, y, i + 1, h, g => by
    unfold DtAll at h
    obtain ⟨x, r, rfl, h1, h2⟩ := h
    rw [List.set_cons_succ, List.set_cons_succ]
    unfold DtAll
    exact ⟨x, _, rfl, h1, dtAll_set i h2 g⟩
theorem dtAll_erase : ∀ {ds : List D} {xs : List V} (i : Nat), DtAll K O H ds xs → DtAll K O H (ds.eraseIdx i) (xs.eraseIdx i)
  | [], _, i, h => by unfold DtAll at h; subst h; unfold DtAll; rfl
  | d :: ds, _, 0, h => by
    unfold DtAll at h
    obtain ⟨x, r, rfl, h1, h2⟩ := h
    exact h2
  | d :: ds, _, i + 1, h => by
    unfold DtAll at h
    obtain ⟨x, r, rfl, h1, h2⟩ := h
    rw [List.eraseIdx_cons_succ, List.eraseIdx_cons_succ]
    unfold DtAll
    exact ⟨x, _, rfl, h1, dtAll_erase i h2⟩
theorem dtAll_rev : ∀ {ds : List D} {xs : List V}, DtAll K O H ds xs → DtAll K O H ds.reverse xs.reverse
  | [], _, h => by unfold DtAll at h; subst h; unfold DtAll; rfl
  | d :: ds, _, h => by
    unfold DtAll at h
    obtain ⟨x, r, rfl, h1, h2⟩ := h
    rw [List.reverse_cons, List.reverse_cons]
    refine dtAll_app (dtAll_rev h2) ?_
    unfold DtAll
    exact ⟨x, [], rfl, h1, by unfold DtAll; rfl⟩
/-! plain data -/
mutual
def py : D → Option PyData
  | .non => some .none
  | .bl b => some (.bool b)
  | .int i => some (.int i)
  | .str x => some (.str x)
  | .tup ds => (pyAll ds).map .tuple
  | .lst ds => (pyAll ds).map .list
  | _ => none
def pyAll : List D → Option (List PyData)
  | [] => some []
  | d :: ds => match py d, pyAll ds with
    | some p, some ps => some (p :: ps)
    | _, _ => none
end
mutual
theorem dt_dp : ∀ (d : D) (v : V) (p : PyData), Dt K O H d v → py d = some p → Dp K H v p
  | .non, v, p, h, e => by unfold Dt at h; unfold py at e; cases e; subst h; exact .non
  | .bl b, v, p, h, e => by unfold Dt at h; unfold py at e; cases e; subst h; exact .bl b
  | .int b, v, p, h, e => by unfold Dt at h; unfold py at e; cases e; subst h; exact .int b
  | .str b, v, p, h, e => by unfold Dt at h; unfold py at e; cases e; subst h; exact .str b
  | .tup ds, v, p, h, e => by
    unfold Dt at h; unfold py at e
    obtain ⟨a, xs, rfl, ha, q⟩ := h
    cases ep : pyAll ds with
    | none => rw [ep] at e; cases e
    | some ps => rw [ep] at e; cases e; exact .tup ha.sq (dtAll_dp ds xs ps q ep)
  | .lst ds, v, p, h, e => by
    unfold Dt at h; unfold py at e
    obtain ⟨a, xs, rfl, _, ha, q⟩ := h
    cases ep : pyAll ds with
    | none => rw [ep] at e; cases e
    | some ps => rw [ep] at e; cases e; exact .lst (SqL.of ha) (dtAll_dp ds xs ps q ep)
  | .dct _, _, _, _, e => by unfold py at e; cases e
  | .obj _ _, _, _, _, e => by unfold py at e; cases e
  | .scr _, _, _, _, e => by unfold py at e; cases e
  | .kls _, _, _, _, e => by unfold py at e; cases e
  | .err _, _, _, _, e => by unfold py at e; cases e
  | .exn _, _, _, _, e => by unfold py at e; cases e
  | .exc _ _, _, _, _, e => by unfold py at e; cases e
  | .dtk _, _, _, _, e => by unfold py at e; cases e
  | .ktu _, _, _, _, e => by unfold py at e; cases e
theorem dtAll_dp : ∀ (ds : List D) (vs : List V) (ps : List PyData), DtAll K O H ds vs → pyAll ds = some ps → DpAll K H vs ps
  | [], vs, ps, h, e => by unfold DtAll at h; unfold pyAll at e; cases e; subst h; exact .nil
  | d :: ds, vs, ps, h, e => by
    unfold DtAll at h; unfold pyAll at e
    obtain ⟨x, r, rfl, h1, h2⟩ := h
    cases e1 : py d with
    | none => rw [e1] at e; cases e
    | some p =>
      cases e2 : pyAll ds with
      | none => rw [e1, e2] at e; cases e
      | some ps' => rw [e1, e2] at e; cases e; exact .cons (dt_dp d x p h1 e1) (dtAll_dp ds r ps' h2 e2)
end
theorem lk_dp {d : D} {p : PyData} (h : Lk K O H d v) (e : py d = some p) : Dp K H v p := by
  cases d with
  | lst ds =>
    obtain ⟨a, xs, rfl, ha, q⟩ := h
    unfold py at e
    cases ep : pyAll ds with
    | none => rw [ep] at e; cases e
    | some ps => rw [ep] at e; cases e; exact .lst (SqL.of ha) (dtAll_dp ds xs ps q ep)
  | dct _ => unfold py at e; cases e
  | obj _ _ => unfold py at e; cases e
  | exn _ => unfold py at e; cases e
  | exc _ _ => unfold py at e; cases e
  | dtk _ => unfold py at e; cases e
  | ktu _ => unfold py at e; cases e
  | _ => exact dt_dp _ v p h e
end
/-! + -/
def dAdd : D → D → Option D
  | .int i, .int j => some (.int (i + j))
  | .str x, .str y => if x.length + y.length ≤ sizeLine then some (.str (x ++ y)) else none
  | .tup xs, .tup ys => if xs.length + ys.length ≤ sizeLine then some (.tup (xs ++ ys)) else none
  | .lst xs, .lst ys => if xs.length + ys.length ≤ sizeLine then some (.lst (xs ++ ys)) else none
  | _, _ => none
def rAdd (K : PySem.W.Frag) : R2 := fun x y H Q => (rI0 (fun i j => .int (i + j)) x y H Q ∨ (∃ i j, x = .str i ∧ y = .str j ∧ i.length + j.length ≤ sizeLine ∧ Q (.str (i ++ j)) H)) ∨ (rCatA K x y H Q ∨ rCat x y H Q)
theorem op_addA {X : Cx} : OpR X (binaryOp .Add) (rAdd X.K) := OpR.or2 (OpR.or2 op_add op_add_str) (OpR.or2 op_catA op_cat)
theorem sem_add {K : PySem.W.Frag} : RSem K (rAdd K) dAdd := fun O H v1 v2 d1 d2 d Q l1 l2 e here q => by
  cases d1 with
  | int i => cases d2 with
    | int j => cases e; have e1 := lk_int l1; have e2 := lk_int l2; subst e1 e2; exact .inl (.inl ⟨i, j, rfl, rfl, q _ H .refl dt_int⟩)
    | _ => cases e
  | str x => cases d2 with
    | str y =>
      have e1 := lk_str l1; have e2 := lk_str l2; subst e1 e2
      unfold dAdd at e
      dsimp only at e
      split at e
      · cases e; exact .inl (.inr ⟨x, y, rfl, rfl, by assumption, q _ H .refl dt_str⟩)
      · cases e
    | _ => cases e
  | tup xs => cases d2 with
    | tup ys =>
      obtain ⟨a, us, rfl, ha, qa⟩ := lk_tup l1
      obtain ⟨b, ws, rfl, hb, qb⟩ := lk_tup l2
      unfold dAdd at e
      dsimp only at e
      have la := dtAll_len qa
      have lb := dtAll_len qb
      split at e
      · cases e
        refine .inr (.inl ⟨a, b, us, ws, rfl, rfl, ha.sq, hb.sq, by omega, fun z => ?_, fun z1 z2 => ?_, fun z1 z2 p hp => ?_⟩)
        · subst z
          have e0 : xs = [] := List.eq_nil_of_length_eq_zero la
          subst e0
          exact q _ H .refl (dt_tup_old hb qb)
        · subst z2
          have e0 : ys = [] := List.eq_nil_of_length_eq_zero lb
          subst e0
          rw [List.append_nil] at q
          exact q _ H .refl (dt_tup_old ha qa)
        · exact q _ _ (Ext.new hp) (dt_tup_new here hp (dtAll_app qa qb))
      · cases e
    | _ => cases e
  | lst xs => cases d2 with
    | lst ys =>
      obtain ⟨a, us, rfl, ha, qa⟩ := l1
      obtain ⟨b, ws, rfl, hb, qb⟩ := l2
      unfold dAdd at e
      dsimp only at e
      have la := dtAll_len qa
      have lb := dtAll_len qb
      split at e
      · cases e
        exact .inr (.inr ⟨a, b, us, ws, rfl, rfl, ha, hb, by omega, fun p hp => q _ _ (Ext.new hp) (dt_lst_new here hp (dtAll_app qa qb))⟩)
      · cases e
    | _ => cases e
  | _ => cases e
/-! -, *, //, %, ** -/
def dSub : D → D → Option D
  | .int i, .int j => some (.int (i - j))
  | _, _ => none
theorem sem_sub {K : PySem.W.Frag} : RSem K (rI0 fun i j => .int (i - j)) dSub := fun O H v1 v2 d1 d2 d Q l1 l2 e here q => by
  cases d1 with
  | int i => cases d2 with
    | int j => cases e; have e1 := lk_int l1; have e2 := lk_int l2; subst e1 e2; exact ⟨i, j, rfl, rfl, q _ H .refl dt_int⟩
    | _ => cases e
  | _ => cases e
instance {i j : Int} : Decidable (CMulW i j) := by unfold CMulW; infer_instance
instance {i j : Int} : Decidable (CDivW i j) := by unfold CDivW; infer_instance
def dMul : D → D → Option D
  | .int i, .int j => if CMulW i j then some (.int (i * j)) else none
  | .lst xs, .int k => if -(2 ^ 63) ≤ k ∧ k < 2 ^ 63 ∧ xs.length * k.toNat ≤ sizeLine then some (.lst (List.replicate k.toNat xs).flatten) else none
  | .tup xs, .int k => if xs ≠ [] ∧ 2 ≤ k ∧ k ≤ 1000 ∧ xs.length ≤ 1000 then some (.tup (List.replicate k.toNat xs).flatten) else none
  | _, _ => none
def rMulA (K : PySem.W.Frag) : R2 := fun x y H Q => rI CMulW (fun i j => .int (i * j)) x y H Q ∨ (rRep x y H Q ∨ rRepT K x y H Q)
theorem op_mulA {X : Cx} : OpR X (binaryOp .Mult) (rMulA X.K) := OpR.or2 op_mulW (OpR.or2 op_rep op_repT)
theorem sem_mul {K : PySem.W.Frag} : RSem K (rMulA K) dMul := fun O H v1 v2 d1 d2 d Q l1 l2 e here q => by
  cases d1 with
  | int i => cases d2 with
    | int j =>
      have e1 := lk_int l1; have e2 := lk_int l2; subst e1 e2
      unfold dMul at e
      dsimp only at e
      split at e
      · cases e; exact .inl ⟨i, j, rfl, rfl, by assumption, q _ H .refl dt_int⟩
      · cases e
    | _ => cases e
  | lst xs => cases d2 with
    | int k =>
      obtain ⟨a, us, rfl, ha, qa⟩ := l1
      have e2 := lk_int l2; subst e2
      have la := dtAll_len qa
      unfold dMul at e
      dsimp only at e
      split at e
      · cases e
        rename_i z
        exact .inr (.inl ⟨a, k, us, rfl, rfl, ha, z.1, z.2.1, by rw [← la]; exact z.2.2, fun p hp => q _ _ (Ext.new hp) (dt_lst_new here hp (dtAll_rep qa _))⟩)
      · cases e
    | _ => cases e
  | tup xs => cases d2 with
    | int k =>
      obtain ⟨a, us, rfl, ha, qa⟩ := lk_tup l1
      have e2 := lk_int l2; subst e2
      have la := dtAll_len qa
      unfold dMul at e
      dsimp only at e
      split at e
      · cases e
        rename_i z
        exact .inr (.inr ⟨a, k, us, rfl, rfl, ha.sq, fun w => z.1 (by subst w; exact List.eq_nil_of_length_eq_zero la), z.2.1, z.2.2.1, by rw [← la]; exact z.2.2.2, fun p hp => q _ _ (Ext.new hp) (dt_tup_new here hp (dtAll_rep qa _))⟩)
      · cases e
    | _ => cases e
  | _ => cases e
def dDiv : D → D → Option D
  | .int i, .int j => if CDivW i j then some (.int (i / j)) else none
  | _, _ => none
theorem sem_div {K : PySem.W.Frag} : RSem K (rI CDivW fun i j => .int (i / j)) dDiv := fun O H v1 v2 d1 d2 d Q l1 l2 e here q => by
  cases d1 with
  | int i => cases d2 with
    | int j =>
      have e1 := lk_int l1; have e2 := lk_int l2; subst e1 e2
      unfold dDiv at e
      dsimp only at e
      split at e
      · cases e; exact ⟨i, j, rfl, rfl, by assumption, q _ H .refl dt_int⟩
      · cases e
    | _ => cases e
  | _ => cases e
def dMod : D → D → Option D
  | .int i, .int j => if 0 < j then some (.int (i % j)) else none
  | _, _ => none
theorem sem_mod {K : PySem.W.Frag} : RSem K (rI (fun _ j => 0 < j) fun i j => .int (i % j)) dMod := fun O H v1 v2 d1 d2 d Q l1 l2 e here q => by
  cases d1 with
  | int i => cases d2 with
    | int j =>
      have e1 := lk_int l1; have e2 := lk_int l2; subst e1 e2
      unfold dMod at e
      dsimp only at e
      split at e
      · cases e; exact ⟨i, j, rfl, rfl, by assumption, q _ H .refl dt_int⟩
      · cases e
    | _ => cases e
  | _ => cases e
def CPowW (i j : Int) : Prop := 0 ≤ j ∧ (Builtin.Int.intBits i : Int) * j ≤ 2 ^ 27
instance {i j : Int} : Decidable (CPowW i j) := by unfold CPowW; infer_instance
theorem op_powW {X : Cx} : OpR X (binaryOp .Pow) (rI CPowW fun i j => .int (i ^ j.toNat)) := opI fun _ _ _ _ _ _ _ hc q => pow_int hc.1 hc.2 q
def dPow : D → D → Option D
  | .int i, .int j => if CPowW i j then some (.int (i ^ j.toNat)) else none
  | _, _ => none
theorem sem_pow {K : PySem.W.Frag} : RSem K (rI CPowW fun i j => .int (i ^ j.toNat)) dPow := fun O H v1 v2 d1 d2 d Q l1 l2 e here q => by
  cases d1 with
  | int i => cases d2 with
    | int j =>
      have e1 := lk_int l1; have e2 := lk_int l2; subst e1 e2
      unfold dPow at e
      dsimp only at e
      split at e
      · cases e; exact ⟨i, j, rfl, rfl, by assumption, q _ H .refl dt_int⟩
      · cases e
    | _ => cases e
  | _ => cases e
/-! ==, != -/
def dEqv (d1 d2 : D) : Option Bool := match py d1, py d2 with
  | some p, some r => if SeqAt.shaped p = true ∧ SeqAt.shaped r = true then some (PyData.eqv p r) else none
  | _, _ => none
def dEqs (d1 d2 : D) : Option Bool := match d1 with
  | .int i => match d2 with
    | .int j => some (decide (i = j))
    | _ => dEqv d1 d2
  | .str x => match d2 with
    | .str y => some (decide (x = y))
    | _ => dEqv d1 d2
  | _ => dEqv d1 d2
def dEq (d1 d2 : D) : Option D := (dEqs d1 d2).map .bl
def dNe (d1 d2 : D) : Option D := (dEqs d1 d2).map fun b => .bl (!b)
theorem dEqv_ok {d1 d2 : D} {b : Bool} (h : dEqv d1 d2 = some b) : ∃ p r, py d1 = some p ∧ py d2 = some r ∧ SeqAt.shaped p = true ∧ SeqAt.shaped r = true ∧ b = PyData.eqv p r := by
  unfold dEqv at h
  split at h
  · split at h
    · cases h; rename_i z; exact ⟨_, _, by assumption, by assumption, z.1, z.2, rfl⟩
    · cases h
  · cases h
theorem dEqs_ok {d1 d2 : D} {b : Bool} (h : dEqs d1 d2 = some b) : (∃ i j, d1 = .int i ∧ d2 = .int j ∧ b = decide (i = j)) ∨ (∃ i j, d1 = .str i ∧ d2 = .str j ∧ b = decide (i = j)) ∨ dEqv d1 d2 = some b := by
  cases d1 with
  | int i => cases d2 with
    | int j => cases h; exact .inl ⟨i, j, rfl, rfl, rfl⟩
    | _ => exact .inr (.inr h)
  | str i => cases d2 with
    | str j => cases h; exact .inr (.inl ⟨i, j, rfl, rfl, rfl⟩)
    | _ => exact .inr (.inr h)
  | _ => exact .inr (.inr h)
def rEqA (K : PySem.W.Frag) : R2 := fun x y H Q => rEq x y H Q ∨ rEqD K x y H Q
def rNeA (K : PySem.W.Frag) : R2 := fun x y H Q => rNe x y H Q ∨ rNeD K x y H Q
theorem dec_vi {i j : Int} : decide (V.int i = V.int j) = decide (i = j) := by rw [Bool.eq_iff_iff]; simp
theorem dec_vs {i j : Str} : decide (V.str i = V.str j) = decide (i = j) := by rw [Bool.eq_iff_iff]; simp
theorem sem_eq {K : PySem.W.Frag} : RSem K (rEqA K) dEq := fun O H v1 v2 d1 d2 d Q l1 l2 e here q => by
  unfold dEq at e
  cases z : dEqs d1 d2 with
  | none => rw [z] at e; cases e
  | some b =>
    rw [z] at e; cases e
    rcases dEqs_ok z with ⟨i, j, rfl, rfl, rfl⟩ | ⟨i, j, rfl, rfl, rfl⟩ | z
    · rw [lk_int l1, lk_int l2]; exact .inl ⟨rfl, by rw [dec_vi]; exact q _ H .refl dt_bl⟩
    · rw [lk_str l1, lk_str l2]; exact .inl ⟨rfl, by rw [dec_vs]; exact q _ H .refl dt_bl⟩
    · obtain ⟨p, r, e1, e2, s1, s2, rfl⟩ := dEqv_ok z
      exact .inr ⟨p, r, lk_dp l1 e1, lk_dp l2 e2, s1, s2, q _ H .refl dt_bl⟩
theorem sem_ne {K : PySem.W.Frag} : RSem K (rNeA K) dNe := fun O H v1 v2 d1 d2 d Q l1 l2 e here q => by
  unfold dNe at e
  cases z : dEqs d1 d2 with
  | none => rw [z] at e; cases e
  | some b =>
    rw [z] at e; cases e
    rcases dEqs_ok z with ⟨i, j, rfl, rfl, rfl⟩ | ⟨i, j, rfl, rfl, rfl⟩ | z
    · rw [lk_int l1, lk_int l2]; exact .inl ⟨rfl, by rw [dec_vi]; exact q _ H .refl dt_bl⟩
    · rw [lk_str l1, lk_str l2]; exact .inl ⟨rfl, by rw [dec_vs]; exact q _ H .refl dt_bl⟩
    · obtain ⟨p, r, e1, e2, s1, s2, rfl⟩ := dEqv_ok z
      exact .inr ⟨p, r, lk_dp l1 e1, lk_dp l2 e2, s1, s2, q _ H .refl dt_bl⟩
/-! <, <=, >, >= -/
def dLt : D → D → Option D
  | .int i, .int j => some (.bl (decide (i < j)))
  | .str i, .str j => some (.bl (decide (i.cps.toList < j.cps.toList)))
  | _, _ => none
def rLtA : R2 := fun x y H Q => rI0 (fun i j => .bl (decide (i < j))) x y H Q ∨ ∃ i j, x = .str i ∧ y = .str j ∧ Q (.bl (decide (i.cps.toList < j.cps.toList))) H
theorem op_ltA {X : Cx} : OpR X (compareOp .Lt) rLtA := OpR.or2 op_lt op_lt_str
theorem sem_lt {K : PySem.W.Frag} : RSem K rLtA dLt := fun O H v1 v2 d1 d2 d Q l1 l2 e here q => by
  cases d1 with
  | int i => cases d2 with
    | int j => cases e; have e1 := lk_int l1; have e2 := lk_int l2; subst e1 e2; exact .inl ⟨i, j, rfl, rfl, q _ H .refl dt_bl⟩
    | _ => cases e
  | str i => cases d2 with
    | str j => cases e; have e1 := lk_str l1; have e2 := lk_str l2; subst e1 e2; exact .inr ⟨i, j, rfl, rfl, q _ H .refl dt_bl⟩
    | _ => cases e
  | _ => cases e
def dLe : D → D → Option D
  | .int i, .int j => some (.bl (decide (i ≤ j)))
  | .str i, .str j => some (.bl (!decide (j.cps.toList < i.cps.toList)))
  | _, _ => none
def rLeA : R2 := fun x y H Q => rI0 (fun i j => .bl (decide (i ≤ j))) x y H Q ∨ ∃ i j, x = .str i ∧ y = .str j ∧ Q (.bl (!decide (j.cps.toList < i.cps.toList))) H
theorem op_leA {X : Cx} : OpR X (compareOp .LtE) rLeA := OpR.or2 op_le op_le_str
theorem sem_le {K : PySem.W.Frag} : RSem K rLeA dLe := fun O H v1 v2 d1 d2 d Q l1 l2 e here q => by
  cases d1 with
  | int i => cases d2 with
    | int j => cases e; have e1 := lk_int l1; have e2 := lk_int l2; subst e1 e2; exact .inl ⟨i, j, rfl, rfl, q _ H .refl dt_bl⟩
    | _ => cases e
  | str i => cases d2 with
    | str j => cases e; have e1 := lk_str l1; have e2 := lk_str l2; subst e1 e2; exact .inr ⟨i, j, rfl, rfl, q _ H .refl dt_bl⟩
    | _ => cases e
  | _ => cases e
def dGt : D → D → Option D
  | .int i, .int j => some (.bl (decide (j < i)))
  | .str i, .str j => some (.bl (decide (j.cps.toList < i.cps.toList)))
  | _, _ => none
def rGtA : R2 := fun x y H Q => rI0 (fun i j => .bl (decide (j < i))) x y H Q ∨ ∃ i j, x = .str i ∧ y = .str j ∧ Q (.bl (decide (j.cps.toList < i.cps.toList))) H
theorem op_gtA {X : Cx} : OpR X (compareOp .Gt) rGtA := OpR.or2 op_gt op_gt_str
theorem sem_gt {K : PySem.W.Frag} : RSem K rGtA dGt := fun O H v1 v2 d1 d2 d Q l1 l2 e here q => by
  cases d1 with
  | int i => cases d2 with
    | int j => cases e; have e1 := lk_int l1; have e2 := lk_int l2; subst e1 e2; exact .inl ⟨i, j, rfl, rfl, q _ H .refl dt_bl⟩
    | _ => cases e
  | str i => cases d2 with
    | str j => cases e; have e1 := lk_str l1; have e2 := lk_str l2; subst e1 e2; exact .inr ⟨i, j, rfl, rfl, q _ H .refl dt_bl⟩
    | _ => cases e
  | _ => cases e
def dGe : D → D → Option D
  | .int i, .int j => some (.bl (decide (j ≤ i)))
  | _, _ => none
theorem sem_ge {K : PySem.W.Frag} : RSem K (rI0 fun i j => .bl (decide (j ≤ i))) dGe := fun O H v1 v2 d1 d2 d Q l1 l2 e here q => by
  cases d1 with
  | int i => cases d2 with
    | int j => cases e; have e1 := lk_int l1; have e2 := lk_int l2; subst e1 e2; exact ⟨i, j, rfl, rfl, q _ H .refl dt_bl⟩
    | _ => cases e
  | _ => cases e
/-! is True, is None -/
def dIsB : D → D → Option D
  | .bl a, .bl b => some (.bl (decide (a = b)))
  | _, _ => none
theorem sem_isB {K : PySem.W.Frag} : RSem K rIsB dIsB := fun O H v1 v2 d1 d2 d Q l1 l2 e here q => by
  cases d1 with
  | bl i => cases d2 with
    | bl j => cases e; have e1 := lk_bl l1; have e2 := lk_bl l2; subst e1 e2; exact ⟨i, j, rfl, rfl, q _ H .refl dt_bl⟩
    | _ => cases e
  | _ => cases e
def isNon : D → Bool
  | .non => true
  | _ => false
theorem lk_isNon {K : PySem.W.Frag} {O : Ow} {H : Hp} {d : D} {v : V} (l : Lk K O H d v) : decide (v = .non) = isNon d := by
  cases d with
  | non => rw [lk_non l]; rfl
  | bl _ => rw [lk_bl l]; rfl
  | int _ => rw [lk_int l]; rfl
  | str _ => rw [lk_str l]; rfl
  | tup _ => obtain ⟨_, _, rfl, _⟩ := lk_tup l; rfl
  | lst _ => obtain ⟨_, _, rfl, _⟩ := l; rfl
  | dct _ => obtain ⟨_, _, rfl, _⟩ := l; rfl
  | dtk _ => obtain ⟨_, _, rfl, _⟩ := l; rfl
  | ktu _ => unfold Lk Dt at l; obtain ⟨_, _, rfl, _⟩ := l; rfl
  | obj _ _ => obtain ⟨_, _, _, rfl, _⟩ := l; rfl
  | scr _ => obtain ⟨_, rfl, _⟩ := lk_scr l; rfl
  | kls C => unfold Lk Dt at l; subst l; rfl
  | err C => unfold Lk Dt at l; obtain ⟨_, rfl, _⟩ := l; rfl
  | exn C => obtain ⟨_, rfl, _⟩ := l; rfl
  | exc C _ => obtain ⟨_, _, _, rfl, _⟩ := l; rfl
def dIsN (d e : D) : Option D := match e with
  | .non => some (.bl (isNon d))
  | _ => none
def dNotN (d e : D) : Option D := match e with
  | .non => some (.bl (!isNon d))
  | _ => none
theorem sem_isN {K : PySem.W.Frag} : RSem K (fun x y H Q => y = .non ∧ Q (.bl (decide (x = .non))) H) dIsN := fun O H v1 v2 d1 d2 d Q l1 l2 e here q => by
  cases d2 with
  | non => cases e; refine ⟨lk_non l2, ?_⟩; rw [lk_isNon l1]; exact q _ H .refl dt_bl
  | _ => cases e
theorem sem_notN {K : PySem.W.Frag} : RSem K (fun x y H Q => y = .non ∧ Q (.bl (!decide (x = .non))) H) dNotN := fun O H v1 v2 d1 d2 d Q l1 l2 e here q => by
  cases d2 with
  | non => cases e; refine ⟨lk_non l2, ?_⟩; rw [lk_isNon l1]; exact q _ H .refl dt_bl
  | _ => cases e
end VS

namespace VS
open PySem PySem.Spec PyProof.Rows L2
section
variable {X : Cx} {W : WX} {k : Nat} {a b c : Expr} {f g l : Mo Pl} {pos p : Pos} {es : List Expr}
/-! ### chains -/
def chM (h h' : D → D → Option D) (f g l : Mo Pl) : Mo D := do
  let p ← f
  let q ← g
  let x ← look p
  let y ← look q
  let r ← Mo.lift (h x y)
  match r with
  | .bl true => do
    let s ← l
    let y ← look q
    let z ← look s
    Mo.lift (h' y z)
  | .bl false => pure (.bl false)
  | _ => fun _ => .no
theorem ch_ok {K : PySem.W.Frag} {r r' : R2} {h h' : D → D → Option D} (hr : RSem K r h) (hr' : RSem K r' h') {σ : L2.St} {H : Hp} {Q : VK} (q : tX K W (rD K) (chM h h' f g l) σ H Q) : tChain r r' (tP K W f) (tP K W g) (tP K W l) σ H Q := by
  obtain ⟨φ, O, ρ, fm, q⟩ := q
  refine tX_mono (fin_bind (rel := rP K) fm q) fun x H1 ⟨O1, ρ1, p, f1, s1, r1, q1⟩ => ?_
  refine tX_mono (fin_bind (rel := rP K) f1 q1) fun y H2 ⟨O2, ρ2, p2, f2, s2, r2, q2⟩ => ?_
  obtain ⟨d1, l1, q2⟩ := fin_look f2 (pl_step s2 (rP_ok r1)) q2
  obtain ⟨d2, l2, q2⟩ := fin_look f2 (rP_ok r2) q2
  obtain ⟨d, e, q2⟩ := fin_lim q2
  refine hr O2 H2 x y d1 d2 d _ l1 l2 e f2.here fun v H3 ex dt => ?_
  cases d with
  | bl c =>
    have ev : v = .bl c := by unfold Dt at dt; exact dt
    refine ⟨c, ev, ?_⟩
    have f3 := f2.ext ex
    cases c with
    | false =>
      rw [if_neg (by decide)]
      exact fin_step (ex.stp (O := O2)) q2 _ O2 H3 f3 .refl dt_bl
    | true =>
      rw [if_pos rfl]
      refine tX_mono (fin_bind (rel := rP K) f3 (fin_step (ex.stp (O := O2)) q2)) fun w H4 ⟨O4, ρ4, p3, f4, s4, r4, q4⟩ => ?_
      obtain ⟨d3, l3, q4⟩ := fin_look f4 (pl_step (ex.stp.trans s4) (rP_ok r2)) q4
      obtain ⟨d4, l4, q4⟩ := fin_look f4 (rP_ok r4) q4
      obtain ⟨d5, e5, q4⟩ := fin_lift q4
      exact hr' O4 H4 y w d3 d4 d5 Q l3 l4 e5 f4.here fun v H5 ex5 dt5 => q4 v O4 H5 (f4.ext ex5) ex5.stp dt5
  | _ => exact q2.elim
theorem se_chain {op op' : CmpOp} {r r' : R2} {h h' : D → D → Option D} (ho : OpR X (compareOp op) r) (ho' : OpR X (compareOp op') r') (hr : RSem X.K r h) (hr' : RSem X.K r' h') (ha : PE X a (tP X.K W f)) (hb : PE X b (tP X.K W g)) (hc : PE X c (tP X.K W l))
    (hm : lastMarks [op, op'] [b, c] = false := by with_unfolding_all rfl) : PE X (.Compare a [op, op'] [b, c] pos) (tE X.K W (chM h h' f g l)) := peI (pe_chain ho ho' ha hb hc hm) fun σ H Q q => ch_ok hr hr' q
theorem st_chain {op op' : CmpOp} {r r' : R2} {h h' : D → D → Option D} (ho : OpR X (compareOp op) r) (ho' : OpR X (compareOp op') r') (hr : RSem X.K r h) (hr' : RSem X.K r' h') (ha : PE X a (tP X.K W f)) (hb : PE X b (tP X.K W g)) (hc : PE X c (tP X.K W l))
    (hm : lastMarks [op, op'] [b, c] = false := by with_unfolding_all rfl) : PT X (.Compare a [op, op'] [b, c] pos) (tT X.K W (testM (chM h h' f g l))) := ptI (pt_chain ho ho' ha hb hc hm) fun σ H Q q => ch_ok hr hr' (tst q)
/-! ### a[i] -/
def atD (ds : List D) (i : Int) : Option D := atI ds i
def dIx : D → D → Option D
  | .lst ds, .int i => atI ds i
  | .tup ds, .int i => atI ds i
  | .str x, .int i => if x.length ≤ sizeLine then (atI x.cps.toList i).map fun c => .str ⟨#[c]⟩ else none
  | .scr ns, .int i => (atI ns i).map .int
  | _, _ => none
theorem dtAll_atI {K : PySem.W.Frag} {O : Ow} {H : Hp} {ds : List D} {xs : List V} {i : Int} {d : D} (h : DtAll K O H ds xs) (e : atI ds i = some d) : ∃ v, atI xs i = some v ∧ Dt K O H d v := by
  unfold atI at e ⊢
  rw [← dtAll_len h]
  cases z : ixN ds.length i with
  | none => rw [z] at e; cases e
  | some j => rw [z] at e; exact dtAll_get h e
theorem atI_map {α β : Type} {f : α → β} {xs : List α} {i : Int} : atI (xs.map f) i = (atI xs i).map f := by
  unfold atI
  rw [List.length_map]
  cases ixN xs.length i with
  | none => rfl
  | some j => simp
theorem sem_ix {K : PySem.W.Frag} : RSem K (rIx K) dIx := fun O H v1 v2 d1 d2 d Q l1 l2 e here q => by
  cases d1 with
  | lst ds => cases d2 with
    | int i =>
      obtain ⟨a, us, rfl, ha, qa⟩ := l1
      have e2 := lk_int l2; subst e2
      obtain ⟨v, ev, dv⟩ := dtAll_atI qa e
      exact .inl ⟨a, us, i, v, rfl, rfl, SqL.of ha, ev, q v H .refl dv⟩
    | _ => cases e
  | tup ds => cases d2 with
    | int i =>
      obtain ⟨a, us, rfl, ha, qa⟩ := lk_tup l1
      have e2 := lk_int l2; subst e2
      obtain ⟨v, ev, dv⟩ := dtAll_atI qa e
      exact .inr (.inl ⟨a, us, i, v, rfl, rfl, ha.sq, ev, q v H .refl dv⟩)
    | _ => cases e
  | str x => cases d2 with
    | int i =>
      have e1 := lk_str l1; have e2 := lk_int l2; subst e1 e2
      unfold dIx at e
      dsimp only at e
      split at e
      · cases z : atI x.cps.toList i with
        | none => rw [z] at e; cases e
        | some c => rw [z] at e; cases e; exact .inr (.inr ⟨x, i, c, rfl, rfl, by assumption, z, q _ H .refl dt_str⟩)
      · cases e
    | _ => cases e
  | scr ns => cases d2 with
    | int i =>
      obtain ⟨a, rfl, ha⟩ := lk_scr l1
      have e2 := lk_int l2; subst e2
      have e' : (atI ns i).map D.int = some d := e
      cases z : atI ns i with
      | none => rw [z] at e'; cases e'
      | some n =>
        rw [z] at e'; cases e'
        exact .inl ⟨a, ns.map V.int, i, .int n, rfl, rfl, ha, by rw [atI_map, z]; rfl, q _ H .refl dt_int⟩
    | _ => cases e
  | _ => cases e
theorem se_ix (ha : PE X a (tP X.K W f)) (hb : PE X b (tP X.K W g)) (hs : PlainIx b := by exact fun _ _ => rfl) : PE X (.Subscript a b pos) (tE X.K W (opM dIx f g)) := peI (pe_ix ix_seq ha hb hs) fun σ H Q q => op2 sem_ix q
/-! ### a[lo:hi] -/
def rO : Rl (Option Int) (Option Int) := fun _ _ _ _ _ o o' => o = o'
abbrev tOo (K : PySem.W.Frag) (W : WX) (m : Mo (Option Int)) : TO := tX K W rO m
theorem poI {e : Option Expr} {t t' : TO} (h : PO X e t) (i : ∀ σ H Q, t' σ H Q → t σ H Q) : PO X e t' := ⟨fun pins s σ H Q I q => h.run pins s σ H Q I (i σ H Q q)⟩
def asI : D → Mo (Option Int)
  | .int i => pure (some i)
  | _ => fun _ => .no
def partM (f : Mo D) : Mo (Option Int) := f >>= asI
theorem so_none : PO X none (tOo X.K W (pure none)) := poI po_none fun σ H Q ⟨φ, O, ρ, f, q⟩ => q none O H f .refl rfl
theorem so_some {m : Mo D} (h : PE X a (tE X.K W m)) : PO X (some a) (tOo X.K W (partM m)) := poI (po_some h) fun σ H Q q => by
  obtain ⟨φ, O, ρ, fm, q⟩ := q
  refine tX_mono (fin_bind (rel := rD X.K) fm q) fun v H1 ⟨O1, ρ1, d, f1, s1, r1, q1⟩ => ?_
  cases d with
  | int i =>
    have e : v = .int i := by unfold rD Dt at r1; exact r1
    exact ⟨i, e, q1 _ O1 H1 f1 .refl rfl⟩
  | _ => exact q1.elim
def cutD (xs : List D) (lo hi : Option Int) : List D := (xs.drop (HT.sIx xs.length 0 lo)).take (HT.sIx xs.length xs.length hi - HT.sIx xs.length 0 lo)
def dSl (d : D) (lo hi : Option Int) : Option D := match d with
  | .lst ds => some (.lst (cutD ds lo hi))
  | .tup ds => some (.tup (cutD ds lo hi))
  | .str x => if x.length ≤ sizeLine then some (.str (cutS x lo hi)) else none
  | _ => none
def slM (f : Mo Pl) (lo hi : Mo (Option Int)) : Mo D := do
  let p ← f
  let i ← lo
  let j ← hi
  let d ← look p
  Mo.lift (dSl d i j)
def rSlAll (K : PySem.W.Frag) : V → Option Int → Option Int → Hp → VK → Prop := fun x lo hi H Q => rSlL K x lo hi H Q ∨ (rSlA K x lo hi H Q ∨ rSlS x lo hi H Q)
theorem sl_all : SlR X (rSlAll X.K) := sl_list.or (sl_tupA.or sl_str)
theorem cut_dt {K : PySem.W.Frag} {O : Ow} {H : Hp} {ds : List D} {xs : List V} {lo hi : Option Int} (h : DtAll K O H ds xs) : DtAll K O H (cutD ds lo hi) (cutV xs lo hi) := by
  unfold cutD cutV
  rw [dtAll_len h]
  exact dtAll_take _ (dtAll_drop _ h)
theorem se_sl {lo hi : Option Expr} {p2 : Pos} {i j : Mo (Option Int)} (ha : PE X a (tP X.K W f)) (hl : PO X lo (tOo X.K W i)) (hh : PO X hi (tOo X.K W j)) : PE X (.Subscript a (.Slice lo hi none p2) pos) (tE X.K W (slM f i j)) := peI (pe_slice sl_all ha hl hh) fun σ H Q q => by
  obtain ⟨φ, O, ρ, fm, q⟩ := q
  refine tX_mono (fin_bind (rel := rP X.K) fm q) fun x H1 ⟨O1, ρ1, p, f1, s1, r1, q1⟩ => ?_
  refine tX_mono (fin_bind (rel := rO) f1 q1) fun lo' H2 ⟨O2, ρ2, lo, f2, s2, r2, q2⟩ => ?_
  refine tX_mono (fin_bind (rel := rO) f2 q2) fun hi' H3 ⟨O3, ρ3, hi, f3, s3, r3, q3⟩ => ?_
  have e1 : lo = lo' := r2
  have e2 : hi = hi' := r3
  subst e1 e2
  obtain ⟨d, ld, q3⟩ := fin_look f3 (pl_step (s2.trans s3) (rP_ok r1)) q3
  obtain ⟨r, e, q3⟩ := fin_lift q3
  cases d with
  | lst ds =>
    cases e
    obtain ⟨a, us, rfl, ha, qa⟩ := ld
    exact .inl ⟨a, us, rfl, SqL.of ha, fun p hp => q3 _ O3 _ (f3.ext (Ext.new hp)) (Ext.new hp).stp (dt_lst_new f3.here hp (cut_dt qa))⟩
  | tup ds =>
    cases e
    obtain ⟨a, us, rfl, ha, qa⟩ := lk_tup ld
    refine .inr (.inl ⟨a, us, rfl, ha.sq, fun z => ?_, fun _ p hp => q3 _ O3 _ (f3.ext (Ext.new hp)) (Ext.new hp).stp (dt_tup_new f3.here hp (cut_dt qa))⟩)
    have e0 : cutD ds lo hi = ds := by
      unfold cutD
      rw [dtAll_len qa, z.1, z.2, List.drop_zero, ← dtAll_len qa]
      exact List.take_of_length_le (by omega)
    refine q3 _ O3 H3 f3 .refl ?_
    rw [e0]
    exact dt_tup_old ha qa
  | str x =>
    have e' : (if x.length ≤ sizeLine then some (D.str (cutS x lo hi)) else none) = some r := e
    have e0 := lk_str ld
    subst e0
    split at e'
    · cases e'; exact .inr (.inr ⟨x, rfl, by assumption, q3 _ O3 H3 f3 .refl dt_str⟩)
    · cases e'
  | _ => cases e
/-! ### built-ins -/
def LkAll (K : PySem.W.Frag) (O : Ow) (H : Hp) : List D → List V → Prop
  | [], xs => xs = []
  | d :: ds, xs => ∃ x r, xs = x :: r ∧ Lk K O H d x ∧ LkAll K O H ds r
def CSem (K : PySem.W.Frag) (r : List V → Hp → VK → Prop) (h : List D → Option D) : Prop := ∀ (O : Ow) (H : Hp) (vs : List V) (ds : List D) (d : D) (Q : VK), LkAll K O H ds vs → h ds = some d → (∀ a, O a → ∃ o, H a = some o) →
  (∀ v H', Ext H H' → Dt K O H' d v → Q v H') → r vs H Q
def bltM (h : List D → Option D) (fs : Mo (List Pl)) : Mo D := do
  let ps ← fs
  let ds ← looks ps
  Mo.lift (h ds)
theorem fin_looks {K : PySem.W.Frag} {φ : Fx} {O : Ow} {ρ : List Sl} {σ : L2.St} {H : Hp} {γ δ : Type} {rel2 : Rl γ δ} {Q : δ → Hp → Prop} (f : Fm K φ O ρ σ H) : ∀ {ps : List Pl} {vs : List V} {k : List D → Mo γ}, PlAll K σ O H ps vs → fin K W rel2 φ (looks ps >>= k) σ O ρ H Q →
    ∃ ds, LkAll K O H ds vs ∧ fin K W rel2 φ (k ds) σ O ρ H Q
  | [], vs, k, h, q => ⟨[], h, q⟩
  | p :: ps, vs, k, ⟨x, r, e, h1, h2⟩, q => by
    have q' : fin K W rel2 φ (look p >>= fun d => (looks ps >>= fun r => k (d :: r))) σ O ρ H Q := by
      unfold fin at q ⊢
      have e : (looks (p :: ps) >>= k) ρ = (look p >>= fun d => (looks ps >>= fun r => k (d :: r))) ρ := by
        have e0 : looks (p :: ps) = (look p >>= fun d => looks ps >>= fun r => pure (d :: r)) := rfl
        rw [e0, bind_eq, bind_eq, bind_eq]
        cases look p ρ with
        | no => rfl
        | ex _ _ => rfl
        | ok d ρ1 =>
          show ((looks ps >>= fun r => pure (d :: r)) ρ1).thn k = (looks ps >>= fun r => k (d :: r)) ρ1
          rw [bind_eq, bind_eq]
          cases looks ps ρ1 with
          | no => rfl
          | ex _ _ => rfl
          | ok r ρ2 => rfl
      rw [← e]
      exact q
    obtain ⟨d, l, q⟩ := fin_look f h1 q'
    obtain ⟨ds, ls, q⟩ := fin_looks f h2 q
    exact ⟨d :: ds, ⟨x, r, e, l, ls⟩, q⟩
theorem blt_ok {K : PySem.W.Frag} {r : List V → Hp → VK → Prop} {h : List D → Option D} (hr : CSem K r h) {fs : Mo (List Pl)} {σ : L2.St} {H : Hp} {Q : VK} (q : tX K W (rD K) (bltM h fs) σ H Q) : tCB r (tPs K W fs) σ H Q := by
  obtain ⟨φ, O, ρ, fm, q⟩ := q
  refine tX_mono (fin_bind (rel := rPs K) fm q) fun vs H1 ⟨O1, ρ1, ps, f1, s1, r1, q1⟩ => ?_
  obtain ⟨ds, l, q1⟩ := fin_looks f1 r1 q1
  obtain ⟨d, e, q1⟩ := fin_lift q1
  exact hr O1 H1 vs ds d Q l e f1.here fun v H2 ex dt => q1 v O1 H2 (f1.ext ex) ex.stp dt
theorem se_blt {x : Str} {id : String} {e : Expr} {r : List V → Hp → VK → Prop} {h : List D → Option D} {fs : Mo (List Pl)} (hc : CallR X (.builtin id) r) (hr : CSem X.K r h) (hm : X.mg x = none) (ha : PA X (e :: es) (tPs X.K W fs)) (hg : Gl X x := by rfl) (hv : bootBuiltins x = some (.builtin id) := by decide +kernel)
    (hn : x ≠ "__name__" := by decide) (hdb : (x == ("__debug__" : Str)) = false := by decide) (he : starEach (e :: es) X.env = (false, eval e X.env) :: starEach es X.env := by rfl) (hpl : (backTo pos (starEach es X.env)).any (·.1) = false := by rfl) :
    PE X (.Call (.Name x p) (e :: es) [] pos) (tE X.K W (bltM h fs)) := peI (pe_callB hc hg hm hv ha hn hdb he hpl) fun σ H Q q => blt_ok hr q
theorem se_bty {x : Str} {T : String} {e : Expr} {r : List V → Hp → VK → Prop} {h : List D → Option D} {fs : Mo (List Pl)} (hc : CallR X (.type T) r) (hr : CSem X.K r h) (hm : X.mg x = none) (ha : PA X (e :: es) (tPs X.K W fs)) (hg : Gl X x := by rfl) (hv : bootBuiltins x = some (.type T) := by decide +kernel)
    (hn : x ≠ "__name__" := by decide) (hdb : (x == ("__debug__" : Str)) = false := by decide) (he : starEach (e :: es) X.env = (false, eval e X.env) :: starEach es X.env := by rfl) (hpl : (backTo pos (starEach es X.env)).any (·.1) = false := by rfl) :
    PE X (.Call (.Name x p) (e :: es) [] pos) (tE X.K W (bltM h fs)) := peI (pe_callTy hc hg hm hv ha hn hdb he hpl) fun σ H Q q => blt_ok hr q
/-! what is new, as one's own -/
def FSem (K : PySem.W.Frag) (r : List V → Hp → VK → Prop) (h : List D → Option D) : Prop := ∀ (O : Ow) (H : Hp) (vs : List V) (ds : List D) (d : D) (Q : VK), LkAll K O H ds vs → h ds = some d → (∀ a, O a → ∃ o, H a = some o) →
  ((∀ p o, H p = none → Own K (plus O p) (upd H p o) d p → Q (.ref p) (upd H p o)) → r vs H Q)
theorem bltF_ok {K : PySem.W.Frag} {r : List V → Hp → VK → Prop} {h : List D → Option D} (hr : FSem K r h) {fs : Mo (List Pl)} {σ : L2.St} {H : Hp} {Q : VK} (q : tX K W (rF K) (bltM h fs) σ H Q) : tCB r (tPs K W fs) σ H Q := by
  obtain ⟨φ, O, ρ, fm, q⟩ := q
  refine tX_mono (fin_bind (rel := rPs K) fm q) fun vs H1 ⟨O1, ρ1, ps, f1, s1, r1, q1⟩ => ?_
  obtain ⟨ds, l, q1⟩ := fin_looks f1 r1 q1
  obtain ⟨d, e, q1⟩ := fin_lift q1
  have hr := hr O1 H1 vs ds d Q l e f1.here
  exact hr fun p o hp ow => q1 _ (plus O1 p) _ (f1.new hp) (stp_new hp) ⟨p, rfl, .inr rfl, f1.h0 hp, f1.noslot hp, f1.pr0 hp, ow⟩
theorem sf_bty {x : Str} {T : String} {e : Expr} {r : List V → Hp → VK → Prop} {h : List D → Option D} {fs : Mo (List Pl)} (hc : CallR X (.type T) r) (hr : FSem X.K r h) (hm : X.mg x = none) (ha : PA X (e :: es) (tPs X.K W fs)) (hg : Gl X x := by rfl) (hv : bootBuiltins x = some (.type T) := by decide +kernel)
    (hn : x ≠ "__name__" := by decide) (hdb : (x == ("__debug__" : Str)) = false := by decide) (he : starEach (e :: es) X.env = (false, eval e X.env) :: starEach es X.env := by rfl) (hpl : (backTo pos (starEach es X.env)).any (·.1) = false := by rfl) :
    PE X (.Call (.Name x p) (e :: es) [] pos) (tF X.K W (bltM h fs)) := peI (pe_callTy hc hg hm hv ha hn hdb he hpl) fun σ H Q q => bltF_ok hr q
theorem lk1 {K : PySem.W.Frag} {O : Ow} {H : Hp} {d : D} {vs : List V} (l : LkAll K O H [d] vs) : ∃ v, vs = [v] ∧ Lk K O H d v := by
  obtain ⟨x, r, e, h, h2⟩ := l
  have h3 : r = [] := h2
  subst h3
  exact ⟨x, e, h⟩
theorem lk2 {K : PySem.W.Frag} {O : Ow} {H : Hp} {d e : D} {vs : List V} (l : LkAll K O H [d, e] vs) : ∃ v w, vs = [v, w] ∧ Lk K O H d v ∧ Lk K O H e w := by
  obtain ⟨x, r, e, h, h2⟩ := l
  obtain ⟨y, rfl, h3⟩ := lk1 h2
  exact ⟨x, y, e, h, h3⟩
/-! len -/
def dLen : List D → Option D
  | [.lst ds] => some (.int ds.length)
  | [.tup ds] => some (.int ds.length)
  | [.str x] => if x.length ≤ sizeLine then some (.int x.length) else none
  | [.scr ns] => some (.int ns.length)
  | _ => none
def rLenA (K : PySem.W.Frag) : List V → Hp → VK → Prop := fun xs H Q => (∃ p ys, xs = [.ref p] ∧ (SqL K H p ys ∨ SqT K H p ys) ∧ Q (.int ys.length) H) ∨ ∃ z, xs = [.str z] ∧ z.length ≤ sizeLine ∧ Q (.int z.length) H
theorem call_lenA : CallR X (.builtin "len") (rLenA X.K) := call_len_seq.or call_len_str
theorem sem_len {K : PySem.W.Frag} : CSem K (rLenA K) dLen := fun O H vs ds d Q l e here q => by
  unfold dLen at e
  split at e
  · obtain ⟨v, rfl, l'⟩ := lk1 l
    cases e
    obtain ⟨a, us, rfl, ha, qa⟩ := l'
    refine .inl ⟨a, us, rfl, .inl (SqL.of ha), ?_⟩
    rw [← dtAll_len qa]
    exact q _ H .refl dt_int
  · obtain ⟨v, rfl, l'⟩ := lk1 l
    cases e
    obtain ⟨a, us, rfl, ha, qa⟩ := lk_tup l'
    refine .inl ⟨a, us, rfl, .inr (ha.sq), ?_⟩
    rw [← dtAll_len qa]
    exact q _ H .refl dt_int
  · obtain ⟨v, rfl, l'⟩ := lk1 l
    have e1 := lk_str l'
    subst e1
    split at e
    · cases e; exact .inr ⟨_, rfl, by assumption, q _ H .refl dt_int⟩
    · cases e
  · obtain ⟨v, rfl, l'⟩ := lk1 l
    cases e
    obtain ⟨a, rfl, ha⟩ := lk_scr l'
    refine .inl ⟨a, _, rfl, .inl ha, ?_⟩
    rw [List.length_map]
    exact q _ H .refl dt_int
  · cases e
/-! abs, int, min, max -/
def dAbs : List D → Option D
  | [.int i] => some (.int (if i < 0 then -i else i))
  | _ => none
theorem sem_abs {K : PySem.W.Frag} : CSem K (fun xs H Q => ∃ i, xs = [.int i] ∧ Q (.int (if i < 0 then -i else i)) H) dAbs := fun O H vs ds d Q l e here q => by
  unfold dAbs at e
  split at e
  · obtain ⟨v, rfl, l'⟩ := lk1 l
    have e1 := lk_int l'
    subst e1
    cases e
    exact ⟨_, rfl, q _ H .refl dt_int⟩
  · cases e
def dInt : List D → Option D
  | [.int i] => some (.int i)
  | [.bl b] => some (.int (if b then 1 else 0))
  | _ => none
theorem sem_int {K : PySem.W.Frag} : CSem K (fun xs H Q => (∃ i, xs = [.int i] ∧ Q (.int i) H) ∨ ∃ k, xs = [.bl k] ∧ Q (.int (if k then 1 else 0)) H) dInt := fun O H vs ds d Q l e here q => by
  unfold dInt at e
  split at e
  · obtain ⟨v, rfl, l'⟩ := lk1 l
    have e1 := lk_int l'
    subst e1
    cases e
    exact .inl ⟨_, rfl, q _ H .refl dt_int⟩
  · obtain ⟨v, rfl, l'⟩ := lk1 l
    have e1 := lk_bl l'
    subst e1
    cases e
    exact .inr ⟨_, rfl, q _ H .refl dt_int⟩
  · cases e
def dMax : List D → Option D
  | [.int i, .int j] => some (.int (if j > i then j else i))
  | _ => none
def dMin : List D → Option D
  | [.int i, .int j] => some (.int (if j < i then j else i))
  | _ => none
theorem sem_max {K : PySem.W.Frag} : CSem K (fun xs H Q => ∃ i j, xs = [.int i, .int j] ∧ Q (.int (if j > i then j else i)) H) dMax := fun O H vs ds d Q l e here q => by
  unfold dMax at e
  split at e
  · obtain ⟨v, w, rfl, l1, l2⟩ := lk2 l
    have e1 := lk_int l1
    have e2 := lk_int l2
    subst e1 e2
    cases e
    exact ⟨_, _, rfl, q _ H .refl dt_int⟩
  · cases e
theorem sem_min {K : PySem.W.Frag} : CSem K (fun xs H Q => ∃ i j, xs = [.int i, .int j] ∧ Q (.int (if j < i then j else i)) H) dMin := fun O H vs ds d Q l e here q => by
  unfold dMin at e
  split at e
  · obtain ⟨v, w, rfl, l1, l2⟩ := lk2 l
    have e1 := lk_int l1
    have e2 := lk_int l2
    subst e1 e2
    cases e
    exact ⟨_, _, rfl, q _ H .refl dt_int⟩
  · cases e
/-! list(x), tuple(x) -/
def dList : List D → Option D
  | [.lst ds] => some (.lst ds)
  | [.tup ds] => some (.lst ds)
  | _ => none
def rListA (K : PySem.W.Frag) : List V → Hp → VK → Prop := fun xs H Q => ∃ p ys, xs = [.ref p] ∧ (SqL K H p ys ∨ SqT K H p ys) ∧ ∀ l, H l = none → Q (.ref l) (upd H l (.lst ys))
theorem fsem_list {K : PySem.W.Frag} : FSem K (rListA K) dList := fun O H vs ds d Q l e here => by
  unfold dList at e
  split at e
  · obtain ⟨v, rfl, l'⟩ := lk1 l
    cases e
    obtain ⟨a, us, rfl, ha, qa⟩ := l'
    exact fun q => ⟨a, us, rfl, .inl (SqL.of ha), fun p hp => q p _ hp ⟨us, upd_same, qa.step (stp_new hp)⟩⟩
  · obtain ⟨v, rfl, l'⟩ := lk1 l
    cases e
    obtain ⟨a, us, rfl, ha, qa⟩ := lk_tup l'
    exact fun q => ⟨a, us, rfl, .inr (ha.sq), fun p hp => q p _ hp ⟨us, upd_same, qa.step (stp_new hp)⟩⟩
  · cases e
def dTuple : List D → Option D
  | [.lst ds] => some (.tup ds)
  | [.tup ds] => some (.tup ds)
  | _ => none
theorem sem_tuple {K : PySem.W.Frag} : CSem K (fun xs H Q => ∃ p ys, xs = [.ref p] ∧ ((SqL K H p ys ∧ ∀ l, H l = none → Q (.ref l) (upd H l (.tup ys))) ∨ (SqT K H p ys ∧ Q (.ref p) H))) dTuple := fun O H vs ds d Q l e here q => by
  unfold dTuple at e
  split at e
  · obtain ⟨v, rfl, l'⟩ := lk1 l
    cases e
    obtain ⟨a, us, rfl, ha, qa⟩ := l'
    exact ⟨a, us, rfl, .inl ⟨SqL.of ha, fun p hp => q _ _ (Ext.new hp) (dt_tup_new here hp qa)⟩⟩
  · obtain ⟨v, rfl, l'⟩ := lk1 l
    cases e
    obtain ⟨a, us, rfl, ha, qa⟩ := lk_tup l'
    exact ⟨a, us, rfl, .inr ⟨ha.sq, q _ H .refl (dt_tup_old ha qa)⟩⟩
  · cases e
/-! all, any -/
def bools : List D → Option (List Bool)
  | [] => some []
  | .bl b :: ds => (bools ds).map (b :: ·)
  | _ => none
theorem bools_vs {K : PySem.W.Frag} {O : Ow} {H : Hp} : ∀ {ds : List D} {xs : List V} {bs : List Bool}, DtAll K O H ds xs → bools ds = some bs → xs = bs.map V.bl
  | [], _, _, h, e => by unfold DtAll at h; subst h; cases e; rfl
  | d :: ds, _, _, h, e => by
    unfold DtAll at h
    obtain ⟨x, r, rfl, h1, h2⟩ := h
    cases d with
    | bl b =>
      have e' : (bools ds).map (b :: ·) = some _ := e
      cases z : bools ds with
      | none => rw [z] at e'; cases e'
      | some bs =>
        rw [z] at e'; cases e'
        unfold Dt at h1
        subst h1
        rw [bools_vs h2 z]
        rfl
    | _ => cases e
def dAll : List D → Option D
  | [.lst ds] => (bools ds).map fun bs => .bl (bs.all id)
  | _ => none
def dAny : List D → Option D
  | [.lst ds] => (bools ds).map fun bs => .bl (bs.any id)
  | _ => none
theorem sem_all {K : PySem.W.Frag} : CSem K (rAll K) dAll := fun O H vs ds d Q l e here q => by
  unfold dAll at e
  split at e
  · obtain ⟨v, rfl, l'⟩ := lk1 l
    rename_i ds
    cases z : bools ds with
    | none => rw [z] at e; cases e
    | some bs =>
      rw [z] at e; cases e
      obtain ⟨a, us, rfl, ha, qa⟩ := l'
      have e1 := bools_vs qa z
      subst e1
      exact ⟨a, bs, rfl, SqL.of ha, q _ H .refl dt_bl⟩
  · cases e
theorem sem_any {K : PySem.W.Frag} : CSem K (rAny K) dAny := fun O H vs ds d Q l e here q => by
  unfold dAny at e
  split at e
  · obtain ⟨v, rfl, l'⟩ := lk1 l
    rename_i ds
    cases z : bools ds with
    | none => rw [z] at e; cases e
    | some bs =>
      rw [z] at e; cases e
      obtain ⟨a, us, rfl, ha, qa⟩ := l'
      have e1 := bools_vs qa z
      subst e1
      exact ⟨a, bs, rfl, SqL.of ha, q _ H .refl dt_bl⟩
  · cases e
end
end VS

namespace VS
variable {gf : Bool}
open PySem PySem.Spec PyProof.Rows L2
/-! ### lists that change -/
def lsR (ρ : List Sl) : Option Sl → Rs Unit
  | some (.own (.lst _)) => .ok () ρ
  | some (.iox _ (.lst _)) => .ok () ρ
  | _ => .no
def lsM (i : Nat) : Mo Unit := fun ρ => lsR ρ ρ[i]?
def mutR (i : Nat) (h : List D → Option (D × List D)) (ρ : List Sl) : Option Sl → Rs D
  | some (.own (.lst ds)) => match h ds with
    | some (r, ds') => .ok r (ρ.set i (.own (.lst ds')))
    | none => .no
  | some (.iox j (.lst ds)) => match h ds with
    | some (r, ds') => .ok r (ρ.set i (.iox j (.lst ds')))
    | none => .no
  | _ => .no
def mutM (i : Nat) (h : List D → Option (D × List D)) : Mo D := fun ρ => mutR i h ρ ρ[i]?
def hApp (d : D) (ds : List D) : Option (D × List D) := if ds.length < sizeLine then some (.non, ds ++ [d]) else none
def hPop (ds : List D) : Option (D × List D) := match ds[ds.length - 1]? with
  | some d => some (d, ds.dropLast)
  | none => none
def hPopAt (i : Int) (ds : List D) : Option (D × List D) := if -(2 ^ 63) ≤ i ∧ i < 2 ^ 63 then match seqIndex? i ds.length with
    | some k => match ds[k]? with
      | some d => some (d, ds.eraseIdx k)
      | none => none
    | none => none
  else none
def hSet (i : Int) (d : D) (ds : List D) : Option (D × List D) := match ixN ds.length i with
  | some j => some (.non, ds.set j d)
  | none => none
section
variable {K : PySem.W.Frag} {W : WX} {φ : Fx} {O : Ow} {ρ : List Sl} {σ : L2.St} {H : Hp} {i : Nat}
theorem mutR_elim {h : List D → Option (D × List D)} {t : Option Sl} (n : mutR i h ρ t ≠ .no) : ∃ s ds r ds', t = some s ∧ s.mine ∧ (s = .own (.lst ds) ∨ ∃ j, s = .iox j (.lst ds)) ∧ h ds = some (r, ds') ∧ mutR i h ρ t = .ok r (ρ.set i (retag s (.lst ds'))) := by
  cases t with
  | none => exact absurd rfl n
  | some s =>
    have gen : ∀ (ds : List D) (c : D → Sl), (match h ds with
        | some (r, ds') => Rs.ok r (ρ.set i (c (.lst ds')))
        | none => Rs.no) ≠ .no → ∃ r ds', h ds = some (r, ds') ∧ (match h ds with
        | some (r, ds') => Rs.ok r (ρ.set i (c (.lst ds')))
        | none => Rs.no) = .ok r (ρ.set i (c (.lst ds'))) := fun ds c n => by
      cases z : h ds with
      | none => rw [z] at n; exact absurd rfl n
      | some p => obtain ⟨r, ds'⟩ := p; exact ⟨r, ds', rfl, rfl⟩
    cases s with
    | no => exact absurd rfl n
    | dat d => exact absurd rfl n
    | own d => cases d with
      | lst ds =>
        obtain ⟨r, ds', e1, e2⟩ := gen ds Sl.own n
        exact ⟨_, ds, r, ds', rfl, trivial, .inl rfl, e1, e2⟩
      | _ => exact absurd rfl n
    | iox j0 d => cases d with
      | lst ds =>
        obtain ⟨r, ds', e1, e2⟩ := gen ds (Sl.iox j0) n
        exact ⟨_, ds, r, ds', rfl, trivial, .inr ⟨j0, rfl⟩, e1, e2⟩
      | _ => exact absurd rfl n
/-- the slot's list, and what may be done to it -/
theorem fin_mut {h : List D → Option (D × List D)} {Q : VK} (fm : Fm K φ O ρ σ H) (q : fin K W (rD K) φ (mutM i h) σ O ρ H Q) : ∃ a ds xs r ds', σ[i]? = some (some (.ref a)) ∧ O a ∧ H a = some (.lst xs) ∧ DtAll K O H ds xs ∧ h ds = some (r, ds') ∧
    ∀ v xs', Dt K O (upd H a (.lst xs')) r v → DtAll K O (upd H a (.lst xs')) ds' xs' → Q v (upd H a (.lst xs')) := by
  unfold fin at q
  rw [show mutM i h ρ = mutR i h ρ ρ[i]? from rfl] at q
  obtain ⟨s, ds, r, ds', es, ms, hs, eh, eq⟩ := mutR_elim (i := i) (h := h) (ρ := ρ) (t := ρ[i]?) fun z => by rw [z] at q; exact q
  rw [eq] at q
  obtain ⟨a, d, ea, oa, ow, hd⟩ := fm.own_at es ms
  have edd : d = .lst ds := by
    rcases hs with rfl | ⟨j, rfl⟩ <;> rcases hd with z | ⟨j', z⟩ <;> cases z <;> rfl
  subst edd
  obtain ⟨xs, hx, qa⟩ := ow
  refine ⟨a, ds, xs, r, ds', ea, oa, hx, qa, eh, fun v xs' dv da => ?_⟩
  have st : Stp O H O (upd H a (.lst xs')) := stp_mut oa
  exact q v O _ (fm.call1 es ms ea kp_upd st (fun _ z => z) (here_kp fm.here kp_upd upd_same) ⟨xs', upd_same, da⟩) st dv
theorem ls_ok {β γ δ : Type} {rel2 : Rl γ δ} {k : Unit → Mo γ} {Q : δ → Hp → Prop} (fm : Fm K φ O ρ σ H) (q : fin K W rel2 φ (lsM i >>= k) σ O ρ H Q) : (∃ a xs, σ[i]? = some (some (.ref a)) ∧ H a = some (.lst xs)) ∧ fin K W rel2 φ (k ()) σ O ρ H Q := by
  unfold fin at q
  rw [bind_eq, show lsM i ρ = lsR ρ ρ[i]? from rfl] at q
  cases e : ρ[i]? with
  | none => rw [e] at q; exact q.elim
  | some s =>
    have z := fm.slot i s e
    cases s with
    | no => rw [e] at q; exact q.elim
    | dat d => rw [e] at q; exact q.elim
    | own d => cases d with
      | lst ds =>
        rw [e] at q
        obtain ⟨a, ev, _, _, xs, hx, _⟩ := z
        exact ⟨⟨a, xs, ev, hx⟩, q⟩
      | _ => rw [e] at q; exact q.elim
    | iox j0 d => cases d with
      | lst ds =>
        rw [e] at q
        obtain ⟨a, _, ev, _, xs, hx, _⟩ := z
        exact ⟨⟨a, xs, ev, hx⟩, q⟩
      | _ => rw [e] at q; exact q.elim
end
def appM (i : Nat) (g : Mo D) : Mo D := lsM i >>= fun _ => g >>= fun d => mutM i (hApp d)
def popM (i : Nat) : Mo D := lsM i >>= fun _ => mutM i hPop
def popAtM (i : Nat) (g : Mo D) : Mo D := lsM i >>= fun _ => g >>= fun d => match d with
  | .int j => mutM i (hPopAt j)
  | _ => fun _ => .no
section
variable {X : Cx} {W : WX} {k : Nat} {x : Str} {e : Expr} {p apos pos : Pos} {g : Mo D}
theorem one_dt {K : PySem.W.Frag} {m : Mo D} {σ : L2.St} {H : Hp} {φ : Fx} {O : Ow} {ρ : List Sl} {γ δ : Type} {rel2 : Rl γ δ} {kk : D → Mo γ} {Q : δ → Hp → Prop} (fm : Fm K φ O ρ σ H) (q : fin K W rel2 φ (m >>= kk) σ O ρ H Q) :
    tCons (tE K W m) tNil σ H fun vs H1 => ∃ v O1 ρ1 d, vs = [v] ∧ Fm K φ O1 ρ1 σ H1 ∧ Stp O H O1 H1 ∧ Dt K O1 H1 d v ∧ fin K W rel2 φ (kk d) σ O1 ρ1 H1 Q :=
  tX_mono (fin_bind (rel := rD K) fm q) fun v H1 ⟨O1, ρ1, d, f1, s1, r1, q1⟩ => ⟨v, O1, ρ1, d, rfl, f1, s1, r1, q1⟩
theorem se_append (i : Nat) (ha : PE X e (tE X.K W g)) (hN : X.N[i]? = some x := by rfl) (hv : Vis X.env.scope x := by first | exact Or.inl rfl | exact Or.inr (Or.inl rfl) | exact Or.inr (Or.inr rfl)) (hd : (x == ("__debug__" : Str)) = false := by decide)
    (hcd : (x == ("__classdict__" : Str)) = false := by decide) (hbase : attributeBase (.Name x p) "append" X.env (eval (.Name x p) X.env) = eval (.Name x p) X.env := by rfl)
    (hfew : ((backTo pos (starEach [e] X.env)).all (fun x => !x.1) && (backToKw pos (keywordEach [] X.env)).all (fun x => x.1.isSome)
      && decide ([e].length + ([] : List Keyword).length + (if ([] : List Keyword).isEmpty then 0 else 1) < 30)) = true := by rfl)
    (hline : (apos.endLine == pos.line) = true := by rfl) (hs : starEach [e] X.env = (false, eval e X.env) :: starEach [] X.env := by rfl) :
    PE X (.Call (.Attribute (.Name x p) "append" apos) [e] [] pos) (tE X.K W (appM i g)) :=
  peI (pe_bm PySem.F.plainAttrs_list PySem.F.slot_list_append PySem.F.type_list_append mt_append (pe_var (i := i) hN hv hd hcd) (pa_cons ha pa_nil hs) hbase hfew hline hs rfl) fun σ H Q q => by
    obtain ⟨φ, O, ρ, fm, q⟩ := q
    obtain ⟨⟨a, xs, ea, hx⟩, q⟩ := ls_ok (β := Unit) fm q
    refine ⟨_, ea, .inl ⟨rfl, _, SqL.of hx⟩, ?_⟩
    refine tX_mono (fin_bind (rel := rD X.K) fm q) fun v H1 ⟨O1, ρ1, d, f1, s1, r1, q1⟩ => ?_
    obtain ⟨a', ds, us, r, ds', ea', oa, hu, qa, eh, qq⟩ := fin_mut f1 q1
    rw [ea] at ea'; cases ea'
    unfold hApp at eh
    split at eh
    · cases eh
      rename_i hz
      have r1' : Dt X.K O1 H1 d v := r1
      refine ⟨a, us, v, rfl, rfl, hu, by rw [← dtAll_len qa]; exact hz, ?_⟩
      exact qq _ _ dt_non (dtAll_app (qa.step (stp_mut oa)) (by unfold DtAll; exact ⟨v, [], rfl, r1'.step (stp_mut oa), by unfold DtAll; rfl⟩))
    · cases eh
theorem se_pop (i : Nat) (hN : X.N[i]? = some x := by rfl) (hv : Vis X.env.scope x := by first | exact Or.inl rfl | exact Or.inr (Or.inl rfl) | exact Or.inr (Or.inr rfl)) (hd : (x == ("__debug__" : Str)) = false := by decide)
    (hcd : (x == ("__classdict__" : Str)) = false := by decide) (hbase : attributeBase (.Name x p) "pop" X.env (eval (.Name x p) X.env) = eval (.Name x p) X.env := by rfl) (hline : (apos.endLine == pos.line) = true := by rfl) :
    PE X (.Call (.Attribute (.Name x p) "pop" apos) [] [] pos) (tE X.K W (popM i)) :=
  peI (pe_bm0 PySem.F.plainAttrs_list PySem.F.slot_list_pop PySem.F.type_list_pop mt_pop (pe_var (i := i) hN hv hd hcd) hbase hline) fun σ H Q q => by
    obtain ⟨φ, O, ρ, fm, q⟩ := q
    obtain ⟨⟨a, xs, ea, hx⟩, q⟩ := ls_ok (β := Unit) fm q
    refine ⟨_, ea, .inl ⟨rfl, _, SqL.of hx⟩, ?_⟩
    obtain ⟨a', ds, us, r, ds', ea', oa, hu, qa, eh, qq⟩ := fin_mut fm q
    rw [ea] at ea'; cases ea'
    unfold hPop at eh
    cases e1 : ds[ds.length - 1]? with
    | none => rw [e1] at eh; cases eh
    | some d =>
      rw [e1] at eh; cases eh
      obtain ⟨v, ev, dv⟩ := dtAll_get qa e1
      refine ⟨a, us, v, rfl, rfl, hu, by rw [← dtAll_len qa]; exact ev, ?_⟩
      refine qq _ _ (dv.step (stp_mut oa)) ?_
      rw [List.dropLast_eq_take, List.dropLast_eq_take, dtAll_len qa]
      exact dtAll_take _ (qa.step (stp_mut oa))
theorem se_popAt (i : Nat) (ha : PE X e (tE X.K W g)) (hN : X.N[i]? = some x := by rfl) (hv : Vis X.env.scope x := by first | exact Or.inl rfl | exact Or.inr (Or.inl rfl) | exact Or.inr (Or.inr rfl)) (hd : (x == ("__debug__" : Str)) = false := by decide)
    (hcd : (x == ("__classdict__" : Str)) = false := by decide) (hbase : attributeBase (.Name x p) "pop" X.env (eval (.Name x p) X.env) = eval (.Name x p) X.env := by rfl)
    (hfew : ((backTo pos (starEach [e] X.env)).all (fun x => !x.1) && (backToKw pos (keywordEach [] X.env)).all (fun x => x.1.isSome)
      && decide ([e].length + ([] : List Keyword).length + (if ([] : List Keyword).isEmpty then 0 else 1) < 30)) = true := by rfl)
    (hline : (apos.endLine == pos.line) = true := by rfl) (hs : starEach [e] X.env = (false, eval e X.env) :: starEach [] X.env := by rfl) :
    PE X (.Call (.Attribute (.Name x p) "pop" apos) [e] [] pos) (tE X.K W (popAtM i g)) :=
  peI (pe_bm PySem.F.plainAttrs_list PySem.F.slot_list_pop PySem.F.type_list_pop mt_popAt (pe_var (i := i) hN hv hd hcd) (pa_cons ha pa_nil hs) hbase hfew hline hs rfl) fun σ H Q q => by
    obtain ⟨φ, O, ρ, fm, q⟩ := q
    obtain ⟨⟨a, xs, ea, hx⟩, q⟩ := ls_ok (β := Unit) fm q
    refine ⟨_, ea, .inl ⟨rfl, _, SqL.of hx⟩, ?_⟩
    refine tX_mono (fin_bind (rel := rD X.K) fm q) fun v H1 ⟨O1, ρ1, d, f1, s1, r1, q1⟩ => ?_
    cases d with
    | int j =>
      have ev : v = .int j := by unfold rD Dt at r1; exact r1
      subst ev
      obtain ⟨a', ds, us, r, ds', ea', oa, hu, qa, eh, qq⟩ := fin_mut f1 q1
      rw [ea] at ea'; cases ea'
      unfold hPopAt at eh
      split at eh
      · rename_i hz
        cases e1 : seqIndex? j ds.length with
        | none => rw [e1] at eh; cases eh
        | some kk =>
          rw [e1] at eh
          dsimp only at eh
          cases e2 : ds[kk]? with
          | none => rw [e2] at eh; cases eh
          | some d =>
            rw [e2] at eh; cases eh
            obtain ⟨w, ew, dw⟩ := dtAll_get qa e2
            refine ⟨a, us, j, kk, w, rfl, rfl, hu, hz.1, hz.2, by rw [← dtAll_len qa]; exact e1, ew, ?_⟩
            exact qq _ _ (dw.step (stp_mut oa)) (dtAll_erase kk (qa.step (stp_mut oa)))
      · cases eh
    | _ => exact q1.elim
/-- x[j] = e, x one's own -/
def putIxM (i : Nat) (j : Mo D) (g : Mo D) : Mo Out := g >>= fun d => slotM i >>= fun _ => j >>= fun n => match n with
  | .int n => mutM i (hSet n d) >>= fun _ => pure .nx
  | _ => fun _ => .no
theorem ss_setIx (i : Nat) {je : Expr} {j : Mo D} {tp : Pos} (he : PE X e (tE X.K W g)) (hj : PE X je (tE X.K W j)) (hN : X.N[i]? = some x := by rfl) (hv : Vis X.env.scope x := by first | exact Or.inl rfl | exact Or.inr (Or.inl rfl) | exact Or.inr (Or.inr rfl)) (hd : (x == ("__debug__" : Str)) = false := by decide)
    (hcd : (x == ("__classdict__" : Str)) = false := by decide)
    (ha : ∀ v, assign (.Subscript (.Name x p) je tp) X.env v = (do
      let ov ← holding [v] (eval (.Name x p) X.env)
      let iv ← holding [v, ov] (eval je X.env)
      standAt tp
      holding [v, ov, iv] (setItem ov iv v)
      release [v, ov, iv] []) := by intro _; rfl) (hs : swapsWithSole [.Subscript (.Name x p) je tp] e pos.line X.env = pure false := by rfl) (hw : swappedStores [.Subscript (.Name x p) je tp] e X.env = pure none := by rfl)
    (h1 : (assignEach [.Subscript (.Name x p) je tp] X.env).map (·.2) = [assign (.Subscript (.Name x p) je tp) X.env] := by rfl) :
    PS X (.Assign [.Subscript (.Name x p) je tp] e pos) (tS X.K W (putIxM i j g)) :=
  psI (ps_asg he (pg_sub (pe_var (i := i) hN hv hd hcd) hj set_list ha) hs hw h1) fun Dn σ H q => by
    obtain ⟨φ, O, ρ, fm, q⟩ := q
    refine tX_mono (sfin_bind (rel := rD X.K) fm q) fun v H1 ⟨O1, ρ1, d, f1, s1, r1, q1⟩ => ?_
    -- the slot
    unfold sfin at q1
    rw [bind_eq, show slotM i ρ1 = slotR i ρ1 ρ1[i]? from rfl] at q1
    have sl : ∃ v0, σ[i]? = some (some v0) ∧ slotR i ρ1 ρ1[i]? = .ok (.slot i) ρ1 := by
      cases e : ρ1[i]? with
      | none => rw [e] at q1; exact q1.elim
      | some s =>
        have z := f1.slot i s e
        cases s with
        | no => rw [e] at q1; exact q1.elim
        | dat d => obtain ⟨v, ev, _⟩ := z; exact ⟨v, ev, rfl⟩
        | own d => obtain ⟨v, ev, _⟩ := z; exact ⟨_, ev, rfl⟩
        | iox j0 d => obtain ⟨v, _, ev, _⟩ := z; exact ⟨_, ev, rfl⟩
    obtain ⟨v0, e0, es⟩ := sl
    rw [es] at q1
    refine ⟨v0, e0, ?_⟩
    refine tX_mono (sfin_bind (rel := rD X.K) (Dn := Dn) f1 (m := j) (k := fun n => match n with
      | .int n => mutM i (hSet n d) >>= fun _ => pure .nx
      | _ => fun _ => .no) q1) fun w H2 ⟨O2, ρ2, n, f2, s2, r2, q2⟩ => ?_
    cases n with
    | int n =>
      have ew : w = .int n := by unfold rD Dt at r2; exact r2
      subst ew
      have q3 : fin X.K W (rD X.K) φ (mutM i (hSet n d)) σ O2 ρ2 H2 fun _ H3 => Dn.nx σ H3 := by
        unfold sfin at q2
        dsimp only at q2
        rw [bind_eq] at q2
        unfold fin
        cases z : mutM i (hSet n d) ρ2 with
        | no => rw [z] at q2; exact q2
        | ex _ _ => rw [z] at q2; exact fun c dd O' H' a b x => q2 c dd σ O' H' a b x
        | ok r ρ3 => rw [z] at q2; exact fun v O' H' a b _ => q2 σ O' H' a b
      obtain ⟨a, ds, us, r, ds', ea, oa, hu, qa, eh, qq⟩ := fin_mut f2 q3
      rw [e0] at ea; cases ea
      unfold hSet at eh
      cases e1 : ixN ds.length n with
      | none => rw [e1] at eh; cases eh
      | some kk =>
        rw [e1] at eh; cases eh
        refine ⟨a, us, n, kk, rfl, rfl, hu, by rw [← dtAll_len qa]; exact e1, ?_⟩
        have r1' : Dt X.K O1 H1 d v := r1
        exact qq _ _ dt_non (dtAll_set kk (qa.step (stp_mut oa)) ((r1'.step s2).step (stp_mut oa)))
    | _ => exact q2.elim
/-! ### a, b = x, y -/
def rK (K : PySem.W.Frag) (b : Bool) : Rl D V := if b = true then rF K else rD K
def slK (b : Bool) (d : D) : Sl := if b = true then .own d else .dat d
def parE (i j : Nat) (b1 b2 : Bool) (x y : D) : Mo Out := fun ρ => .ok .nx ((ρ.set i (slK b1 x)).set j (slK b2 y))
def putP (i j : Nat) (b1 b2 : Bool) (f g : Mo D) : Mo Out := f >>= fun x => g >>= fun y => parE i j b1 b2 x y
theorem NoSlot.of_put {b : Addr} {i : Nat} {t : Sl} {ρ : List Sl} {σ : L2.St} {x : Option V} (h : NoSlot b ρ σ) (hx : x ≠ some (.ref b)) : NoSlot b (ρ.set i t) (σ.set i x) := h.put fun _ => hx
theorem own_hold {K : PySem.W.Frag} {O : Ow} {H : Hp} {d : D} {p : Addr} (h : Own K O H d p) : ∃ o, H p = some o ∧ ∀ O' H', Stp O H O' H' → H' p = some o → Own K O' H' d p := by
  obtain ⟨o, ho⟩ := h.some
  exact ⟨o, ho, fun O' H' s e => h.step s (e.trans ho.symm)⟩
theorem par_ok {K : PySem.W.Frag} {i j : Nat} {b1 b2 : Bool} {m1 m2 : Mo D} {Dn : Ends} {σ : L2.St} {H : Hp} (q : tS K W (putP i j b1 b2 m1 m2) Dn σ H) :
    tX K W (rK K b1) m1 σ H fun v H1 => tX K W (rK K b2) m2 σ H1 fun w H2 => Dn.nx ((σ.set i (some v)).set j (some w)) H2 := by
  obtain ⟨φ, O, ρ, fm, q⟩ := q
  refine tX_mono (sfin_bind (rel := rK K b1) fm q) fun v H1 ⟨O1, ρ1, d, f1, s1, r1, q1⟩ => ?_
  cases b1 with
  | false =>
    have d1 : Dt K O1 H1 d v := r1
    refine tX_mono (sfin_bind (rel := rK K b2) (Dn := { Dn with nx := fun σ' H' => Dn.nx σ' H' }) f1 (m := m2) (k := fun y => parE i j false b2 d y) q1) fun w H2 ⟨O2, ρ2, e, f2, s2, r2, q2⟩ => ?_
    have d2 := d1.step s2
    cases b2 with
    | false => exact q2 _ O2 H2 ((f2.put d2).put r2) .refl
    | true =>
      obtain ⟨p, rfl, op, n0, ns, pn, ow⟩ := r2
      refine q2 _ O2 H2 ((f2.put d2).putOwn ow op n0 (ns.put fun m => m.elim) pn) .refl
  | true =>
    obtain ⟨p, rfl, op, n0, ns, pn, ow⟩ := r1
    obtain ⟨o, ho, keep⟩ := own_hold ow
    have fh := f1.hold op ho ns
    -- the second one, the first one held
    refine ⟨φ.hold p o, O1, ρ1, fh, ?_⟩
    unfold sfin at q1
    rw [bind_eq] at q1
    unfold fin
    cases z : m2 ρ1 with
    | no => rw [z] at q1; exact q1
    | ex x ρ2 => rw [z] at q1; exact fun c dd O' H' a b x => q1 c dd σ O' H' (a.free pn) b x
    | ok y ρ2 =>
      rw [z] at q1
      intro w O2 H2 f2 s2 r2
      obtain ⟨op2, hp2, ns2⟩ := f2.held
      have ow2 := keep O2 H2 s2 hp2
      have f3 := (f2.free pn).putOwn (i := i) ow2 op2 n0 ns2 pn
      cases b2 with
      | false =>
        exact q1 _ O2 H2 (f3.put r2) s2
      | true =>
        obtain ⟨p', rfl, op', n0', ns', pn', ow'⟩ := r2
        have ne : p' ≠ p := fun z => by
          subst z
          have e : (if p' = p' then some o else φ.pr p') = none := pn'
          rw [if_pos rfl] at e
          cases e
        have pn2 : φ.pr p' = none := by
          have e : (if p' = p then some o else φ.pr p') = none := pn'
          rw [if_neg ne] at e
          exact e
        exact q1 _ O2 H2 (f3.putOwn ow' op' n0' (ns'.put fun _ z => ne (V.ref.inj (Option.some.inj z)).symm) pn2) s2
theorem par_ta {K : PySem.W.Frag} {b1 b2 : Bool} {m1 m2 : Mo D} {i j : Nat} {Dn : Ends} {σ : L2.St} {H : Hp} (q : tX K W (rK K b1) m1 σ H fun v H1 => tX K W (rK K b2) m2 σ H1 fun w H2 => Dn.nx ((σ.set i (some v)).set j (some w)) H2) :
    tPar i j (tCons (tX K W (rK K b1) m1) (tCons (tX K W (rK K b2) m2) tNil)) Dn σ H :=
  tX_mono q fun v H1 z => tX_mono z fun w H2 z => ⟨v, w, rfl, z⟩
theorem ss_par (i j : Nat) (b1 b2 : Bool) {y : Str} {a b : Expr} {m1 m2 : Mo D} {px py pt : Pos} {kt k2 pt2} (cn : Cn X W k gf) (hN : X.N.Nodup) (ha : PE X a (tX X.K W (rK X.K b1) m1)) (hb : PE X b (tX X.K W (rK X.K b2) m2)) (hi : X.N[i]? = some x := by rfl) (hj : X.N[j]? = some y := by rfl) (hij : i ≠ j := by decide)
    (hx : X.env.scope.names.lookup x = some .local := by rfl) (hy : X.env.scope.names.lookup y = some .local := by rfl)
    (hs1 : starEach [a, b] X.env = (false, eval a X.env) :: starEach [b] X.env := by rfl) (hs2 : starEach [b] X.env = (false, eval b X.env) :: starEach [] X.env := by rfl)
    (hw : swappedStores [.Tuple [.Name x px, .Name y py] kt pt] (.Tuple [a, b] k2 pt2) X.env = pure (some [x, y]) := by rfl) (hs : swapsWithSole [.Tuple [.Name x px, .Name y py] kt pt] (.Tuple [a, b] k2 pt2) pos.line X.env = pure false := by rfl) :
    PS X (.Assign [.Tuple [.Name x px, .Name y py] kt pt] (.Tuple [a, b] k2 pt2) pos) (tS X.K W (putP i j b1 b2 m1 m2)) :=
  psI (ps_par cn.cm hN hi hj hij hx hy (pa_cons ha (pa_cons hb pa_nil hs2) hs1) hw hs) fun Dn σ H q => par_ta (par_ok q)
end
end VS

namespace VS
open PySem PySem.Spec PyProof.Rows L2
/-! ### repr -/
def kPy : Key → PyData
  | .inl i => .int i
  | .inr x => .str x
mutual
def pr : D → Option PyData
  | .non => some .none
  | .bl b => some (.bool b)
  | .int i => some (.int i)
  | .str x => some (.str x)
  | .tup ds => (prAll ds).map .tuple
  | .lst ds => (prAll ds).map .list
  | .dct kvs => (prKv kvs).map .dict
  | .obj _ _ => none
  | .scr _ => none
  | .kls _ => none
  | .err _ => none
  | .exn _ => none
  | .exc _ _ => none
  | .dtk _ => none
  | .ktu _ => none
def prAll : List D → Option (List PyData)
  | [] => some []
  | d :: ds => match pr d, prAll ds with
    | some p, some ps => some (p :: ps)
    | _, _ => none
def prKv : List (Key × D) → Option (List (PyData × PyData))
  | [] => some []
  | (k, d) :: ds => match pr d, prKv ds with
    | some p, some ps => some ((kPy k, p) :: ps)
    | _, _ => none
end
section
variable {X : Cx} {pins : List (Addr × Obj)} {σ : L2.St} {H : Hp} {s : Shared} {O : Ow}
theorem key_reads {P : Program} {w : World} {h : Heap} {k : Key} {v : Value} (e : keyIs k v = true) : Reads h v (kPy k) [] := by
  rcases keyIs_shape e with ⟨i, t, rfl, rfl⟩ | ⟨x, t, rfl, rfl⟩
  · exact .int i t
  · exact .str x t
theorem lst_reads (I : Inv X pins σ H s) {a : Addr} {xs : List V} {ps : List PyData} (h : H a = some (.lst xs)) (r : ∀ us, Vals xs us → ∃ as, ReadsAll s.heap us ps as ∧ ∀ b ∈ as, ∃ o, H b = some o) : ∃ as, Reads s.heap (.ref a) (.list ps) as ∧ ∀ b ∈ as, ∃ o, H b = some o := by
  obtain ⟨_, its, n, rv, e⟩ := (show ObjOk X.prog X.w H s.heap a (.lst xs) from I.hok a _ h)
  obtain ⟨as, ra, ha⟩ := r its rv
  exact ⟨a :: as, .list e rfl rfl (by simpa using ra), fun b hb => (List.mem_cons.mp hb).elim (fun z => ⟨.lst xs, by rw [z]; exact h⟩) (ha b)⟩
theorem tup_reads (I : Inv X pins σ H s) {a : Addr} {xs : List V} {ps : List PyData} (h : TpAt X.K O H a xs) (r : ∀ us, Vals xs us → ∃ as, ReadsAll s.heap us ps as ∧ ∀ b ∈ as, ∃ o, H b = some o) : ∃ as, Reads s.heap (.ref a) (.tuple ps) as ∧ ∀ b ∈ as, ∃ o, H b = some o := by
  obtain ⟨its, rv, ⟨o, e, c, n, d⟩, _⟩ := I.tuple h.sq
  obtain ⟨as, ra, ha⟩ := r its rv
  exact ⟨as, .tuple e c d (by simpa using ra), ha⟩
theorem dct_reads (I : Inv X pins σ H s) {a : Addr} {es : List (Key × V)} {kvs : List (Key × D)} {ps : List (PyData × PyData)} (h : Rd H a (.dK es)) (r : ∀ (ws : List (Key × Value)), KV es ws → ∃ as, ReadsAll s.heap (ws.map (·.2)) (ps.map (·.2)) as ∧ ws.map (fun w => kPy w.1) = ps.map (·.1) ∧ ∀ b ∈ as, ∃ o, H b = some o) :
    ∃ as, Reads s.heap (.ref a) (.dict ps) as ∧ ∀ b ∈ as, ∃ o, H b = some o := by
  obtain ⟨_, _, ws, kv, o, ds, ep, e, ex, d, _, prs, _⟩ := (show ObjOk X.prog X.w H s.heap a (.dK es) from h.ok I.hok)
  obtain ⟨as, ra, ek, ha⟩ := r ws kv
  have both : ∀ {l : List DictEntry} {ws : List (Key × Value)}, Pairs (mixKind X.prog X.w) l ws → ∃ cs, ReadsAll s.heap (l.map (·.key)) (ws.map fun w => kPy w.1) cs ∧ cs = [] ∧ l.map (·.val) = ws.map (·.2) := by
    intro l ws q
    induction q with
    | nil => exact ⟨[], .nil, rfl, rfl⟩
    | cons h1 h2 _ ih =>
      obtain ⟨cs, r1, e1, e2⟩ := ih
      subst e1
      refine ⟨[] ++ [], .cons (key_reads (P := X.prog) (w := X.w) h1) r1, rfl, ?_⟩
      rw [List.map_cons, List.map_cons, h2, e2]
  obtain ⟨cs, r1, e1, e2⟩ := both prs
  subst e1
  rw [ek] at r1
  rw [← e2] at ra
  refine ⟨a :: [] ++ as, .dict e ex.1 d r1 ra, fun b hb => ?_⟩
  rcases List.mem_cons.mp hb with z | z
  · rw [z]; exact h.elim (fun h => ⟨_, h⟩) fun ⟨o, h⟩ => ⟨_, h⟩
  · exact ha b z
mutual
theorem dt_reads (I : Inv X pins σ H s) : ∀ (d : D) (v : V) (u : Value) (p : PyData), Dt X.K O H d v → RelV v u → pr d = some p → ∃ as, Reads s.heap u p as ∧ ∀ b ∈ as, ∃ o, H b = some o
  | .non, v, u, p, h, r, e => by unfold Dt at h; unfold pr at e; cases e; subst h; cases (show u = Value.none from r); exact ⟨[], .none, fun b z => by cases z⟩
  | .bl b, v, u, p, h, r, e => by unfold Dt at h; unfold pr at e; cases e; subst h; cases (show u = Value.bool b from r); exact ⟨[], .bool b, fun b z => by cases z⟩
  | .int i, v, u, p, h, r, e => by unfold Dt at h; unfold pr at e; cases e; subst h; obtain ⟨t, rfl⟩ := r; exact ⟨[], .int i t, fun b z => by cases z⟩
  | .str i, v, u, p, h, r, e => by unfold Dt at h; unfold pr at e; cases e; subst h; obtain ⟨t, rfl⟩ := r; exact ⟨[], .str i t, fun b z => by cases z⟩
  | .tup ds, v, u, p, h, r, e => by
    unfold Dt at h; unfold pr at e
    obtain ⟨a, xs, rfl, ha, q⟩ := h
    cases (show u = Value.ref a from r)
    cases ep : prAll ds with
    | none => rw [ep] at e; cases e
    | some ps => rw [ep] at e; cases e; exact tup_reads I ha fun us rv => dtAll_reads I ds xs us ps q rv ep
  | .lst ds, v, u, p, h, r, e => by
    unfold Dt at h; unfold pr at e
    obtain ⟨a, xs, rfl, _, ha, q⟩ := h
    cases (show u = Value.ref a from r)
    cases ep : prAll ds with
    | none => rw [ep] at e; cases e
    | some ps => rw [ep] at e; cases e; exact lst_reads I ha fun us rv => dtAll_reads I ds xs us ps q rv ep
  | .dct ds, v, u, p, h, r, e => by
    unfold Dt at h; unfold pr at e
    obtain ⟨a, ob, xs, rfl, _, ha, q⟩ := h
    cases (show u = Value.ref a from r)
    cases ep : prKv ds with
    | none => rw [ep] at e; cases e
    | some ps => rw [ep] at e; cases e; exact dct_reads I (kvs := ds) (.inr ⟨ob, ha⟩) fun ws kv => dtKv_reads I ds xs ws ps q kv ep
  | .obj _ _, _, _, _, _, _, e => by unfold pr at e; cases e
  | .scr _, _, _, _, _, _, e => by unfold pr at e; cases e
  | .kls _, _, _, _, _, _, e => by unfold pr at e; cases e
  | .err _, _, _, _, _, _, e => by unfold pr at e; cases e
  | .exn _, _, _, _, _, _, e => by unfold pr at e; cases e
  | .exc _ _, _, _, _, _, _, e => by unfold pr at e; cases e
  | .dtk _, _, _, _, _, _, e => by unfold pr at e; cases e
  | .ktu _, _, _, _, _, _, e => by unfold pr at e; cases e
theorem dtAll_reads (I : Inv X pins σ H s) : ∀ (ds : List D) (vs : List V) (us : List Value) (ps : List PyData), DtAll X.K O H ds vs → Vals vs us → prAll ds = some ps → ∃ as, ReadsAll s.heap us ps as ∧ ∀ b ∈ as, ∃ o, H b = some o
  | [], vs, us, ps, h, r, e => by unfold DtAll at h; unfold prAll at e; cases e; subst h; cases r; exact ⟨[], .nil, fun b z => by cases z⟩
  | d :: ds, vs, us, ps, h, r, e => by
    unfold DtAll at h; unfold prAll at e
    obtain ⟨x, t, rfl, h1, h2⟩ := h
    cases e1 : pr d with
    | none => rw [e1] at e; cases e
    | some p =>
      cases e2 : prAll ds with
      | none => rw [e1, e2] at e; cases e
      | some ps' =>
        rw [e1, e2] at e; cases e
        cases r with
        | cons r1 r2 =>
          obtain ⟨as, q1, w1⟩ := dt_reads I d x _ p h1 r1 e1
          obtain ⟨bs, q2, w2⟩ := dtAll_reads I ds t _ ps' h2 r2 e2
          exact ⟨as ++ bs, .cons q1 q2, fun b hb => (List.mem_append.mp hb).elim (w1 b) (w2 b)⟩
theorem dtKv_reads (I : Inv X pins σ H s) : ∀ (ds : List (Key × D)) (es : List (Key × V)) (ws : List (Key × Value)) (ps : List (PyData × PyData)), DtKv X.K O H ds es → KV es ws → prKv ds = some ps → ∃ as, ReadsAll s.heap (ws.map (·.2)) (ps.map (·.2)) as ∧ ws.map (fun w => kPy w.1) = ps.map (·.1) ∧ ∀ b ∈ as, ∃ o, H b = some o
  | [], es, ws, ps, h, r, e => by unfold DtKv at h; unfold prKv at e; cases e; subst h; cases r; exact ⟨[], .nil, rfl, fun b z => by cases z⟩
  | (k, d) :: ds, es, ws, ps, h, r, e => by
    unfold DtKv at h; unfold prKv at e
    obtain ⟨x, t, rfl, h1, h2⟩ := h
    cases e1 : pr d with
    | none => rw [e1] at e; cases e
    | some p =>
      cases e2 : prKv ds with
      | none => rw [e1, e2] at e; cases e
      | some ps' =>
        rw [e1, e2] at e; cases e
        cases r with
        | cons r1 r2 =>
          obtain ⟨ek, r1⟩ := r1
          obtain ⟨as, q1, w1⟩ := dt_reads I d x _ p h1 r1 e1
          obtain ⟨bs, q2, ek2, w2⟩ := dtKv_reads I ds t _ ps' h2 r2 e2
          refine ⟨as ++ bs, .cons q1 q2, ?_, fun b hb => (List.mem_append.mp hb).elim (w1 b) (w2 b)⟩
          rw [List.map_cons, List.map_cons, ek2, ← ek]
end
theorem lk_reads (I : Inv X pins σ H s) {d : D} {v : V} {u : Value} {p : PyData} (h : Lk X.K O H d v) (r : RelV v u) (e : pr d = some p) : ∃ as, Reads s.heap u p as ∧ ∀ b ∈ as, ∃ o, H b = some o := by
  cases d with
  | lst ds =>
    obtain ⟨a, xs, rfl, ha, q⟩ := h
    unfold pr at e
    cases (show u = Value.ref a from r)
    cases ep : prAll ds with
    | none => rw [ep] at e; cases e
    | some ps => rw [ep] at e; cases e; exact lst_reads I ha fun us rv => dtAll_reads I ds xs us ps q rv ep
  | dct ds =>
    obtain ⟨a, xs, rfl, ha, q⟩ := h
    unfold pr at e
    cases (show u = Value.ref a from r)
    cases ep : prKv ds with
    | none => rw [ep] at e; cases e
    | some ps => rw [ep] at e; cases e; exact dct_reads I (kvs := ds) ha fun ws kv => dtKv_reads I ds xs ws ps q kv ep
  | obj _ _ => unfold pr at e; cases e
  | scr _ => unfold pr at e; cases e
  | exn _ => unfold pr at e; cases e
  | exc _ _ => unfold pr at e; cases e
  | dtk _ => unfold pr at e; cases e
  | ktu _ => unfold pr at e; cases e
  | _ => exact dt_reads I _ v u p h r e
def dRepr : List D → Option D
  | [d] => match pr d with
    | some p => if p.showable = true ∧ p.shown.length ≤ sizeLine ∧ p.depth ≤ 60 then some (.str p.shown) else none
    | none => none
  | _ => none
/-- repr(x), in a calm air -/
def rRepr (K : PySem.W.Frag) : List V → Hp → VK → Prop := fun vs H Q => ∃ O d p v, vs = [v] ∧ Lk K O H d v ∧ pr d = some p ∧ p.showable = true ∧ p.shown.length ≤ sizeLine ∧ p.depth ≤ 60 ∧ Q (.str p.shown) H
theorem call_repr {W : WX} {k : Nat} (cn : Cn X W k) : CallR X (.builtin "repr") (rRepr X.K) := by
  intro pins s σ H xs us Q I r h
  obtain ⟨O, d, p, v, rfl, l, ep, hs, hz, hd, q⟩ := h
  obtain ⟨u, rfl, rx⟩ := Vals.one r
  obtain ⟨as, rd, tr⟩ := lk_reads I l rx ep
  have ns : sysModules ∉ as := fun z => by
    obtain ⟨o, ho⟩ := tr _ z
    obtain ⟨b, hb⟩ := cn.sy
    rw [(I.bs _ _ hb).2] at ho
    cases ho
  have hu := cn.rm.units
  cases rd with
  | none => exact PySem.P.repr_of_none ⟨.str _, H, I.tok _, ⟨_, rfl⟩, by simpa only [PyData.shown] using q⟩
  | bool b => exact PySem.P.repr_of_bool ⟨.str _, H, I.tok _, ⟨_, rfl⟩, by simpa only [PyData.shown] using q⟩
  | int i t => exact PySem.P.repr_of_int (by simpa [PyData.showable] using hs) ⟨.str _, H, I.tok _, ⟨_, rfl⟩, by simpa only [PyData.shown] using q⟩
  | str x t => exact PySem.P.repr_of_str ⟨.str _, H, I.tok _, ⟨_, rfl⟩, by simpa only [PyData.shown] using q⟩ (by simpa only [PyData.shown] using hz)
  | list h1 h2 h3 h4 => exact repr_of_reads' (.list h1 h2 h3 h4) hs (fun _ => ns) (cn.gu rfl) (by omega) (fun _ _ e => e) (fun h' t tk kp => ⟨.str _, H, I.kept kp, ⟨_, rfl⟩, q⟩) hz
  | tuple h1 h2 h3 h4 => exact repr_of_reads' (.tuple h1 h2 h3 h4) hs (fun _ => ns) (cn.gu rfl) (by omega) (fun _ _ e => e) (fun h' t tk kp => ⟨.str _, H, I.kept kp, ⟨_, rfl⟩, q⟩) hz
  | dict h1 h2 h3 h4 h5 => exact repr_of_reads' (.dict h1 h2 h3 h4 h5) hs (fun _ => ns) (cn.gu rfl) (by omega) (fun _ _ e => e) (fun h' t tk kp => ⟨.str _, H, I.kept kp, ⟨_, rfl⟩, q⟩) hz
theorem sem_repr {K : PySem.W.Frag} : CSem K (rRepr K) dRepr := fun O H vs ds d Q l e here q => by
  unfold dRepr at e
  split at e
  · obtain ⟨v, rfl, l'⟩ := lk1 l
    split at e
    · split at e
      · cases e
        rename_i z
        exact ⟨O, _, _, v, rfl, l', by assumption, z.1, z.2.1, z.2.2, q _ H .refl dt_str⟩
      · cases e
    · cases e
  · cases e
end
end VS

namespace VS
variable {gf : Bool}
open PySem PySem.Spec PyProof.Rows L2 PySem.SeqAt MeetsSeq
open AutoSeq1 (wpAny_loadPart')
theorem str_eq_dict (b : Str) (u : Tok) (l : Addr) (dd : Option Addr) (es : Array DictEntry) (n : Nat) (sl : Array (Option Value)) : Meets (Builtin.«str.__eq__» ⟨[.str b u, .ref l], []⟩) (fun _ R s => s.heap.get? l = some { cls := .type "dict", dict := dd, data := .dict es n, slots := sl } ∧ R (.ok (.ret .notImplemented)) s) :=
  .of_wp fun prog w A R s h => by obtain ⟨hp, g, d, tk, os⟩ := s; obtain ⟨hl, h⟩ := h; wp_walk using wpAny_loadPart' hl, wpAny_load hl; exact ⟨_, rfl, h⟩
theorem dict_eq_str (b : Str) (u : Tok) (l : Addr) (dd : Option Addr) (es : Array DictEntry) (n : Nat) (sl : Array (Option Value)) : Meets (Builtin.«dict.__eq__» ⟨[.ref l, .str b u], []⟩) (fun _ R s => s.heap.get? l = some { cls := .type "dict", dict := dd, data := .dict es n, slots := sl } ∧ R (.ok (.ret .notImplemented)) s) :=
  .of_wp fun prog w A R s h => by
    obtain ⟨hl, h⟩ := h
    show wpAny _ _ (Builtin.Dict.dictSlotArgs "__eq__" ⟨[.ref l, .str b u], []⟩ >>= _) _ _ s
    refine wpAny_bind ?_
    unfold Builtin.Dict.dictSlotArgs
    have ty : s.TypeIs (.ref l) "dict" := ⟨_, hl, rfl⟩
    refine wpAny_bind (wpAny_notOrdered_dict ty ?_)
    show wpAny _ _ (pure (Value.ref l, Value.str b u)) _ _ s
    refine wpAny_pure ?_
    refine wpAny_bind (wpAny_isInstance (T := "str") (typeIs_str s b u) F.sub_str_dict ?_)
    simp only [Bool.not_false, if_true]
    exact wpAny_bind (wpAny_rule (wpAny_pure ⟨_, rfl, h⟩))
section
variable {A : Around} {s : Shared}
theorem rc_str_dict {l : Addr} {dd : Option Addr} {es : Array DictEntry} {n : Nat} {sl : Array (Option Value)} (b : Str) (u : Tok) (ho : s.heap.get? l = some { cls := .type "dict", dict := dd, data := .dict es n, slots := sl }) (hu : A.units < cLine) : RcAt A s (.str b u) (.ref l) false := fun prog w E Q h =>
  rc_eq_decline_or (k := false) (typeIs_str s b u) ⟨_, ho, rfl⟩ (by decide) F.sub_dict_str F.slot_str_eq F.slot_dict_eq_refl
    (fun _ hq => call_meets F.slot_str_eq (typeIs_str s b u) F.entry_str_eq (F.args_str_eq_2 _ _) (str_eq_dict b u l dd es n sl) ⟨ho, hq⟩)
    (fun _ hq => call_meets F.slot_dict_eq_refl ⟨_, ho, rfl⟩ F.entry_dict_eq (F.args_dict_eq_2 _ _) (dict_eq_str b u l dd es n sl) ⟨ho, hq⟩)
    (fun _ hq => wpAny_of_eq (rfl : isSame (.str b u) (.ref l) = pure false) hq) (.inr hu) h
theorem ea_str_dict {l : Addr} {dd : Option Addr} {es : Array DictEntry} {n : Nat} {sl : Array (Option Value)} (b : Str) (u : Tok) (ho : s.heap.get? l = some { cls := .type "dict", dict := dd, data := .dict es n, slots := sl }) (hu : A.units < cLine) : EqAt A s (.str b u) (.ref l) false := fun prog w E Q h => by
  unfold eqBool
  refine wpAny_holding ?_
  refine wpAny_ite_split (fun hab => absurd (eq_of_beq hab) nofun) (fun _ => ?_)
  exact wpAny_bind (rc_str_dict b u ho hu prog w E _ (wpAny_truthy_bool h))
end
/-! ### x in xs, xs texts, x what it may be -/
def txts : List D → Option (List Str)
  | [] => some []
  | .str x :: ds => (txts ds).map (x :: ·)
  | _ => none
theorem txts_vs {K : PySem.W.Frag} {O : Ow} {H : Hp} : ∀ {ds : List D} {xs : List V} {bs : List Str}, DtAll K O H ds xs → txts ds = some bs → xs = bs.map V.str
  | [], _, _, h, e => by unfold DtAll at h; subst h; cases e; rfl
  | d :: ds, _, _, h, e => by
    unfold DtAll at h
    obtain ⟨x, r, rfl, h1, h2⟩ := h
    cases d with
    | str b =>
      have e' : (txts ds).map (b :: ·) = some _ := e
      cases z : txts ds with
      | none => rw [z] at e'; cases e'
      | some bs =>
        rw [z] at e'; cases e'
        unfold Dt at h1
        subst h1
        rw [txts_vs h2 z]
        rfl
    | _ => cases e
def D.isSeq : D → Bool
  | .tup _ => true
  | .lst _ => true
  | _ => false
def dInL (ds : List D) (d : D) : Option Bool := match txts ds with
  | none => none
  | some xs => match d with
    | .str y => some (decide (y ∈ xs))
    | .obj _ _ => none
    | .scr _ => none
    | .kls _ => none
    | .err _ => none
    | .exn _ => none
    | .exc _ _ => none
    | .dtk _ => none
    | .ktu _ => none
    | _ => some false
/-- items of any kind, by equality -/
def dInV (ds : List D) (d : D) : Option Bool := match py d, pyAll ds with
  | some p, some ps => if SeqAt.shaped p = true ∧ SeqAt.shaped (.list ps) = true then some (ps.any fun z => PyData.eqv z p) else none
  | _, _ => none
def dInX (ds : List D) (d : D) : Option Bool := match dInL ds d with
  | some b => some b
  | none => dInV ds d
def dInG (neg : Bool) (d : D) : D → Option D
  | .tup ds => (dInX ds d).map fun b => .bl (b ^^ neg)
  | .lst ds => (dInX ds d).map fun b => .bl (b ^^ neg)
  | .str z => match d with
    | .str x => match x.cps.toList with
      | [c] => some (.bl ((decide (c ∈ z.cps.toList)) ^^ neg))
      | _ => none
    | _ => none
  | _ => none
def dIn : D → D → Option D := dInG false
def dNotIn : D → D → Option D := dInG true
def rInT (K : PySem.W.Frag) (neg : Bool) : R2 := fun x y H Q => ∃ O d e b, Lk K O H d x ∧ Lk K O H e y ∧ (e.isSeq = true) ∧ dInG neg d e = some (.bl b) ∧ Q (.bl b) H
theorem dInV_ok {ds : List D} {d : D} {b : Bool} (h : dInV ds d = some b) : ∃ p ps, py d = some p ∧ pyAll ds = some ps ∧ SeqAt.shaped p = true ∧ SeqAt.shaped (.list ps) = true ∧ b = ps.any fun z => PyData.eqv z p := by
  unfold dInV at h
  split at h
  · split at h
    · cases h; rename_i z; exact ⟨_, _, by assumption, by assumption, z.1, z.2, rfl⟩
    · cases h
  · cases h
def isTx : D → Option (Option Str)
  | .str y => some (some y)
  | .obj _ _ => none
  | .scr _ => none
  | .kls _ => none
  | .err _ => none
  | .exn _ => none
  | .exc _ _ => none
  | .dtk _ => none
  | .ktu _ => none
  | _ => some none
/-- does this text equal it -/
def eqTx (o : Option Str) : Value → Bool
  | .str x _ => some x == o
  | _ => false
section
variable {X : Cx} {pins : List (Addr × Obj)} {σ : L2.St} {H : Hp} {s : Shared} {O : Ow}
theorem ea_tx (I : Inv X pins σ H s) {A : Around} (hu : A.units < cLine) {d : D} {v : V} {u : Value} {o : Option Str} (l : Lk X.K O H d v) (r : RelV v u) (e : isTx d = some o) (y : Str) (t : Tok) : EqAt A s (.str y t) u (eqTx o (.str y t)) := by
  cases d with
  | non => cases e; rw [lk_non l] at r; cases (show u = Value.none from r); exact EqAt.str_none _ _
  | bl b => cases e; rw [lk_bl l] at r; cases (show u = Value.bool b from r); exact EqAt.str_bool _ _ _
  | int i => cases e; rw [lk_int l] at r; obtain ⟨t, rfl⟩ := r; exact EqAt.str_int _ _ _ _
  | str x =>
    cases e; rw [lk_str l] at r; obtain ⟨t', rfl⟩ := r
    have z := EqAt.str_str (A := A) (s := s) y t x t'
    have e1 : (y == x) = eqTx (some x) (.str y t) := by
      show (y == x) = (some y == some x)
      rfl
    rw [← e1]
    exact z
  | tup ds =>
    cases e
    obtain ⟨a, xs, rfl, ha, _⟩ := lk_tup l
    cases (show u = Value.ref a from r)
    obtain ⟨its, rv, ⟨o, h1, h2, n, h3⟩, _⟩ := I.tuple ha.sq
    exact EqAt.str_tuple (items := its.toArray) _ _ ⟨o, h1, h2, n, h3⟩ hu
  | lst ds =>
    cases e
    obtain ⟨a, xs, rfl, ha, _⟩ := l
    cases (show u = Value.ref a from r)
    obtain ⟨_, its, n, rv, h1⟩ := (show ObjOk X.prog X.w H s.heap a (.lst xs) from I.hok a _ ha)
    exact EqAt.str_list (items := its.toArray) _ _ ⟨_, h1, rfl, n, rfl⟩ hu
  | dct kvs =>
    cases e
    obtain ⟨a, xs, rfl, ha, _⟩ := l
    cases (show u = Value.ref a from r)
    obtain ⟨_, _, ws, kv, o, ds, ep, h1, ex, d, _, prs, _⟩ := (show ObjOk X.prog X.w H s.heap a (.dK xs) from ha.ok I.hok)
    obtain ⟨oc, od, dt, sl⟩ := o
    have e1 := ex.1
    simp only at e1 d
    subst e1 d
    exact ea_str_dict _ _ h1 hu
  | obj _ _ => cases e
  | scr _ => cases e
  | kls _ => cases e
  | err _ => cases e
  | exn _ => cases e
  | exc _ _ => cases e
  | dtk _ => cases e
  | ktu _ => cases e
theorem dInL_tx {ds : List D} {d : D} {b : Bool} (h : dInL ds d = some b) : ∃ xs o, txts ds = some xs ∧ isTx d = some o ∧ b = xs.any fun x => some x == o := by
  unfold dInL at h
  cases e : txts ds with
  | none => rw [e] at h; cases h
  | some xs =>
    rw [e] at h
    have no : (some false = some b) → ∃ ys o, some xs = some ys ∧ some (none : Option Str) = some o ∧ b = ys.any fun x => some x == o := fun z => by
      cases z
      exact ⟨xs, none, rfl, rfl, (by simp)⟩
    cases d with
    | str y => cases h; refine ⟨xs, some y, rfl, rfl, ?_⟩; rw [Bool.eq_iff_iff]; simp
    | obj _ _ => cases h
    | scr _ => cases h
    | kls _ => cases h
    | err _ => cases h
    | exn _ => cases h
    | exc _ _ => cases h
    | dtk _ => cases h
    | ktu _ => cases h
    | _ => exact no h
theorem any_tx {o : Option Str} : ∀ {xs : List Str} {us : List Value}, Vals (xs.map V.str) us → us.any (eqTx o) = xs.any fun x => some x == o
  | [], _, r => by cases r; rfl
  | x :: xs, _, r => by
    cases r with
    | cons r1 r2 =>
      obtain ⟨t, rfl⟩ := r1
      rw [List.any_cons, List.any_cons, any_tx r2]
      rfl
theorem all_tx {xs : List Str} {us : List Value} (r : Vals (xs.map V.str) us) : ∀ y ∈ us, ∃ x t, y = .str x t := by
  induction xs generalizing us with
  | nil => cases r; intro y h; cases h
  | cons x xs ih =>
    cases r with
    | cons r1 r2 =>
      obtain ⟨t, rfl⟩ := r1
      intro y h
      rcases List.mem_cons.mp h with rfl | h
      · exact ⟨x, t, rfl⟩
      · exact ih r2 y h
end
section
variable {X : Cx} {W : WX} {k : Nat}
theorem op_inT (cn : Cn X W k gf) : OpR X (compareOp .In) (rInT X.K false) := by
  intro pins s σ H x y v u Q I rx ry h
  obtain ⟨O, d, e, b, l1, l2, _, eb, q⟩ := h
  have hu := cn.rm.units
  have q' : EP X pins σ Q (.bool b) s := ⟨.bl b, H, I, rfl, q⟩
  cases e with
  | tup ds =>
    obtain ⟨a, xs, rfl, ha, qa⟩ := lk_tup l2
    cases (show u = Value.ref a from ry)
    have eb' : (dInX ds d).map (fun b => D.bl (b ^^ false)) = some (.bl b) := eb
    unfold dInX at eb'
    cases z : dInL ds d with
    | none =>
      rw [z] at eb'
      dsimp only at eb'
      cases zv : dInV ds d with
      | none => rw [zv] at eb'; cases eb'
      | some b' =>
        rw [zv] at eb'
        cases eb'
        obtain ⟨p, ps, e1, e2, s1, s2, rfl⟩ := dInV_ok zv
        obtain ⟨as, r1⟩ := Dp.reads I p x v (lk_dp l1 e1) rx
        obtain ⟨bs, r2⟩ := Dp.reads I (.tuple ps) (.ref a) (.ref a) (.tup (ha.sq) (dtAll_dp ds xs ps qa e2)) rfl
        exact SeqAt.in_tuple_reads r2 r1 (SeqAt.canLay_of_shaped s2) (SeqAt.canLay_of_shaped s1) (room_in_shaped s1 (by have := cn.rm.un; omega)) (by simpa using q')
    | some b' =>
      rw [z] at eb'
      cases eb'
      obtain ⟨ts, o, et, eo, rfl⟩ := dInL_tx z
      have exs := txts_vs qa et
      subst exs
      obtain ⟨its, rv, ⟨ob, h1, h2, n, h3⟩, _⟩ := I.tuple ha.sq
      refine in_tupleAt (items := its.toArray) (eqTx o) ⟨ob, h1, h2, n, h3⟩ (fun w hw => ?_) ?_
      · obtain ⟨x', t, rfl⟩ := all_tx rv w (by simpa using hw)
        exact ea_tx I (show X.A.in1.units < cLine from by have : X.A.in1.units = X.A.units + 1 := rfl; omega) l1 rx eo x' t
      · rw [List.any_toArray, any_tx rv]
        simpa using q'
  | lst ds =>
    obtain ⟨a, xs, rfl, ha, qa⟩ := l2
    cases (show u = Value.ref a from ry)
    have eb' : (dInX ds d).map (fun b => D.bl (b ^^ false)) = some (.bl b) := eb
    unfold dInX at eb'
    cases z : dInL ds d with
    | none =>
      rw [z] at eb'
      dsimp only at eb'
      cases zv : dInV ds d with
      | none => rw [zv] at eb'; cases eb'
      | some b' =>
        rw [zv] at eb'
        cases eb'
        obtain ⟨p, ps, e1, e2, s1, s2, rfl⟩ := dInV_ok zv
        obtain ⟨as, r1⟩ := Dp.reads I p x v (lk_dp l1 e1) rx
        obtain ⟨bs, r2⟩ := Dp.reads I (.list ps) (.ref a) (.ref a) (.lst (SqL.of ha) (dtAll_dp ds xs ps qa e2)) rfl
        exact SeqAt.in_list_reads r2 r1 (SeqAt.canLay_of_shaped s2) (SeqAt.canLay_of_shaped s1) (room_in_shaped s1 (by have := cn.rm.un; omega)) (by simpa using q')
    | some b' =>
      rw [z] at eb'
      cases eb'
      obtain ⟨ts, o, et, eo, rfl⟩ := dInL_tx z
      have exs := txts_vs qa et
      subst exs
      obtain ⟨_, its, n, rv, h1⟩ := (show ObjOk X.prog X.w H s.heap a (.lst _) from I.hok a _ ha)
      refine in_listAt (items := its.toArray) (eqTx o) ⟨_, h1, rfl, n, rfl⟩ (fun w hw => ?_) ?_
      · obtain ⟨x', t, rfl⟩ := all_tx rv w (by simpa using hw)
        exact ea_tx I (show X.A.in1.units < cLine from by have : X.A.in1.units = X.A.units + 1 := rfl; omega) l1 rx eo x' t
      · rw [List.any_toArray, any_tx rv]
        simpa using q'
  | _ => rename_i hs; cases hs
theorem op_notInT (cn : Cn X W k gf) : OpR X (compareOp .NotIn) (rInT X.K true) := by
  intro pins s σ H x y v u Q I rx ry h
  obtain ⟨O, d, e, b, l1, l2, _, eb, q⟩ := h
  have hu := cn.rm.units
  have q' : EP X pins σ Q (.bool b) s := ⟨.bl b, H, I, rfl, q⟩
  cases e with
  | tup ds =>
    obtain ⟨a, xs, rfl, ha, qa⟩ := lk_tup l2
    cases (show u = Value.ref a from ry)
    have eb' : (dInX ds d).map (fun b => D.bl (b ^^ true)) = some (.bl b) := eb
    unfold dInX at eb'
    cases z : dInL ds d with
    | none =>
      rw [z] at eb'
      dsimp only at eb'
      cases zv : dInV ds d with
      | none => rw [zv] at eb'; cases eb'
      | some b' =>
        rw [zv] at eb'
        cases eb'
        obtain ⟨p, ps, e1, e2, s1, s2, rfl⟩ := dInV_ok zv
        obtain ⟨as, r1⟩ := Dp.reads I p x v (lk_dp l1 e1) rx
        obtain ⟨bs, r2⟩ := Dp.reads I (.tuple ps) (.ref a) (.ref a) (.tup (ha.sq) (dtAll_dp ds xs ps qa e2)) rfl
        exact SeqAt.notIn_tuple_reads r2 r1 (SeqAt.canLay_of_shaped s2) (SeqAt.canLay_of_shaped s1) (room_in_shaped s1 (by have := cn.rm.un; omega)) (by simpa using q')
    | some b' =>
      rw [z] at eb'
      cases eb'
      obtain ⟨ts, o, et, eo, rfl⟩ := dInL_tx z
      have exs := txts_vs qa et
      subst exs
      obtain ⟨its, rv, ⟨ob, h1, h2, n, h3⟩, _⟩ := I.tuple ha.sq
      refine notIn_tupleAt (items := its.toArray) (eqTx o) ⟨ob, h1, h2, n, h3⟩ (fun w hw => ?_) ?_
      · obtain ⟨x', t, rfl⟩ := all_tx rv w (by simpa using hw)
        exact ea_tx I (show X.A.in1.units < cLine from by have : X.A.in1.units = X.A.units + 1 := rfl; omega) l1 rx eo x' t
      · rw [List.any_toArray, any_tx rv]
        simpa using q'
  | lst ds =>
    obtain ⟨a, xs, rfl, ha, qa⟩ := l2
    cases (show u = Value.ref a from ry)
    have eb' : (dInX ds d).map (fun b => D.bl (b ^^ true)) = some (.bl b) := eb
    unfold dInX at eb'
    cases z : dInL ds d with
    | none =>
      rw [z] at eb'
      dsimp only at eb'
      cases zv : dInV ds d with
      | none => rw [zv] at eb'; cases eb'
      | some b' =>
        rw [zv] at eb'
        cases eb'
        obtain ⟨p, ps, e1, e2, s1, s2, rfl⟩ := dInV_ok zv
        obtain ⟨as, r1⟩ := Dp.reads I p x v (lk_dp l1 e1) rx
        obtain ⟨bs, r2⟩ := Dp.reads I (.list ps) (.ref a) (.ref a) (.lst (SqL.of ha) (dtAll_dp ds xs ps qa e2)) rfl
        exact SeqAt.notIn_list_reads r2 r1 (SeqAt.canLay_of_shaped s2) (SeqAt.canLay_of_shaped s1) (room_in_shaped s1 (by have := cn.rm.un; omega)) (by simpa using q')
    | some b' =>
      rw [z] at eb'
      cases eb'
      obtain ⟨ts, o, et, eo, rfl⟩ := dInL_tx z
      have exs := txts_vs qa et
      subst exs
      obtain ⟨_, its, n, rv, h1⟩ := (show ObjOk X.prog X.w H s.heap a (.lst _) from I.hok a _ ha)
      refine notIn_listAt (items := its.toArray) (eqTx o) ⟨_, h1, rfl, n, rfl⟩ (fun w hw => ?_) ?_
      · obtain ⟨x', t, rfl⟩ := all_tx rv w (by simpa using hw)
        exact ea_tx I (show X.A.in1.units < cLine from by have : X.A.in1.units = X.A.units + 1 := rfl; omega) l1 rx eo x' t
      · rw [List.any_toArray, any_tx rv]
        simpa using q'
  | _ => rename_i hs; cases hs
theorem op_inA (cn : Cn X W k gf) : OpR X (compareOp .In) (fun x y H Q => rInT X.K false x y H Q ∨ ∃ (c : Nat) (z : Str), x = .str ⟨#[c]⟩ ∧ y = .str z ∧ Q (.bl (decide (c ∈ z.cps.toList))) H) := OpR.or2 (op_inT cn) op_in_sign
theorem op_notInA (cn : Cn X W k gf) : OpR X (compareOp .NotIn) (fun x y H Q => rInT X.K true x y H Q ∨ ∃ (c : Nat) (z : Str), x = .str ⟨#[c]⟩ ∧ y = .str z ∧ Q (.bl (!decide (c ∈ z.cps.toList))) H) := OpR.or2 (op_notInT cn) op_notIn_sign
theorem inG_cases {neg : Bool} {d e r : D} (h : dInG neg d e = some r) : (e.isSeq = true ∧ ∃ b, r = .bl b) ∨ ∃ c z, d = .str ⟨#[c]⟩ ∧ e = .str z ∧ r = .bl ((decide (c ∈ z.cps.toList)) ^^ neg) := by
  cases e with
  | tup ds =>
    have h' : (dInX ds d).map (fun b => D.bl (b ^^ neg)) = some r := h
    cases z : dInX ds d with
    | none => rw [z] at h'; cases h'
    | some b => rw [z] at h'; cases h'; exact .inl ⟨rfl, _, rfl⟩
  | lst ds =>
    have h' : (dInX ds d).map (fun b => D.bl (b ^^ neg)) = some r := h
    cases z : dInX ds d with
    | none => rw [z] at h'; cases h'
    | some b => rw [z] at h'; cases h'; exact .inl ⟨rfl, _, rfl⟩
  | str z => cases d with
    | str x =>
      have h' : (match x.cps.toList with
        | [c] => some (D.bl ((decide (c ∈ z.cps.toList)) ^^ neg))
        | _ => none) = some r := h
      split at h'
      · rename_i c ec
        cases h'
        refine .inr ⟨c, z, ?_, rfl, rfl⟩
        obtain ⟨cp⟩ := x
        obtain ⟨l⟩ := cp
        have ec' : l = [c] := ec
        subst ec'
        rfl
      · cases h'
    | _ => cases h
  | _ => cases h
theorem sem_in {K : PySem.W.Frag} : RSem K (fun x y H Q => rInT K false x y H Q ∨ ∃ (c : Nat) (z : Str), x = .str ⟨#[c]⟩ ∧ y = .str z ∧ Q (.bl (decide (c ∈ z.cps.toList))) H) dIn := fun O H v1 v2 d1 d2 d Q l1 l2 e here q => by
  rcases inG_cases e with ⟨hs, b, rfl⟩ | ⟨c, z, rfl, rfl, rfl⟩
  · exact .inl ⟨O, d1, d2, b, l1, l2, hs, e, q _ H .refl dt_bl⟩
  · refine .inr ⟨c, z, lk_str l1, lk_str l2, ?_⟩
    have := q (.bl (decide (c ∈ z.cps.toList))) H .refl (by rw [Bool.xor_false]; exact dt_bl)
    exact this
theorem sem_notIn {K : PySem.W.Frag} : RSem K (fun x y H Q => rInT K true x y H Q ∨ ∃ (c : Nat) (z : Str), x = .str ⟨#[c]⟩ ∧ y = .str z ∧ Q (.bl (!decide (c ∈ z.cps.toList))) H) dNotIn := fun O H v1 v2 d1 d2 d Q l1 l2 e here q => by
  rcases inG_cases e with ⟨hs, b, rfl⟩ | ⟨c, z, rfl, rfl, rfl⟩
  · exact .inl ⟨O, d1, d2, b, l1, l2, hs, e, q _ H .refl dt_bl⟩
  · refine .inr ⟨c, z, lk_str l1, lk_str l2, ?_⟩
    have := q (.bl (!decide (c ∈ z.cps.toList))) H .refl (by rw [Bool.xor_true]; exact dt_bl)
    exact this
end
end VS

namespace VS
open PySem PySem.Spec PyProof.Rows L2 HT
section
variable {prog : Program} {w : World} {A : Around} {E : Value → Shared → Prop} {s : Shared}
theorem rev_applied {sl : Addr} {vl vu vs : Value} {n : Nat} {Q : Int × Int × Nat → Shared → Prop} (hs : s.heap.IsSliceOf sl vl vu vs) (pl : IsPart vl none) (pu : IsPart vu none) (ps : IsPart vs (some (-1)))
    (h : Q ((n : Int) - 1, -1, n) s) : wpAny (model prog w) A (Builtin.Slice.sliceApplied (.ref sl) (pure (n : Int))) Q E s := by
  obtain ⟨os, hos, hcs, hds⟩ := id hs
  unfold Builtin.Slice.sliceApplied Builtin.Slice.sliceFields
  refine wpAny_bind (wpAny_bind (wpAny_field hos hds (x := vl) rfl (wpAny_bind (wpAny_field hos hds (x := vu) rfl (wpAny_bind (wpAny_field hos hds (x := vs) rfl (wpAny_pure ?_)))))))
  refine wpAny_bind (slicePart_ ps ?_)
  show wpAny _ _ (if ((-1 : Int) == 0) = true then _ else _) _ _ s
  rw [if_neg (by decide)]
  refine wpAny_bind (slicePart_ pl (wpAny_bind (slicePart_ pu (wpAny_bind (wpAny_pure ?_)))))
  have e : Builtin.Slice.sliceAdjust none none (-1) (n : Int) = ((n : Int) - 1, -1) := by
    unfold Builtin.Slice.sliceAdjust
    simp
  have e2 : Builtin.Slice.slicePlaces ((n : Int) - 1) (-1) (-1) = n := by
    unfold Builtin.Slice.slicePlaces
    simp
    omega
  show wpAny _ _ (match Builtin.Slice.sliceAdjust none none (-1) (n : Int) with | (lo, hi) => pure (lo, (-1 : Int), Builtin.Slice.slicePlaces lo hi (-1))) _ _ s
  rw [e]
  show wpAny _ _ (pure (((n : Int) - 1), (-1 : Int), Builtin.Slice.slicePlaces ((n : Int) - 1) (-1) (-1))) _ _ s
  rw [e2]
  exact wpAny_pure h
theorem pick_rev (xs : Array Value) : ((List.range xs.size).filterMap fun (m : Nat) => xs[(((xs.size : Int) - 1) + (m : Int) * (-1)).toNat]?).toArray = xs.toList.reverse.toArray := by
  congr 1
  obtain ⟨l⟩ := xs
  have eg : (fun (m : Nat) => (⟨l⟩ : Array Value)[(((l.length : Int) - 1) + (m : Int) * (-1)).toNat]?) = fun (m : Nat) => l[(((l.length : Int) - 1) + (m : Int) * (-1)).toNat]? := by
    funext m
    exact List.getElem?_toArray
  have e0 : (List.range (⟨l⟩ : Array Value).size).filterMap (fun (m : Nat) => (⟨l⟩ : Array Value)[((((⟨l⟩ : Array Value).size : Int) - 1) + (m : Int) * (-1)).toNat]?) = (List.range l.length).filterMap (fun (m : Nat) => (⟨l⟩ : Array Value)[(((l.length : Int) - 1) + (m : Int) * (-1)).toNat]?) := rfl
  rw [e0, eg]
  have gen : ∀ k, k ≤ l.length → ((List.range k).filterMap fun (m : Nat) => l[(((l.length : Int) - 1) + (m : Int) * (-1)).toNat]?) = l.reverse.take k := by
    intro k
    induction k with
    | zero => intro _; rfl
    | succ k ih =>
      intro hk
      rw [List.range_succ, List.filterMap_append, ih (by omega)]
      have e : (((l.length : Int) - 1) + (k : Int) * (-1)).toNat = l.length - 1 - k := by omega
      have hlt : l.length - 1 - k < l.length := by omega
      rw [List.take_add_one, List.getElem?_reverse (by omega), List.getElem?_eq_getElem hlt]
      simp only [List.filterMap_cons, e, List.getElem?_eq_getElem hlt, List.filterMap_nil, Option.toList]
  rw [gen _ (Nat.le_refl _), List.take_of_length_le (by rw [List.length_reverse]; exact Nat.le_refl _)]
theorem getItem_tuple_rev {t sl : Addr} {items : Array Value} {vl vu vs : Value} {Q : Value → Shared → Prop} (ht : IsTup s.heap t items) (hs : s.heap.IsSliceOf sl vl vu vs) (pl : IsPart vl none) (pu : IsPart vu none) (ps : IsPart vs (some (-1)))
    (h : Q (.ref s.heap.objs.size) { s with heap := s.heap.push { cls := .type "tuple", data := .seq items.toList.reverse.toArray } })
    (hsz : items.size ≤ sizeLine) : wpAny (model prog w) A (getItem (.ref t) (.ref sl)) Q E s := by
  have htake : sizeOk (.seq items.toList.reverse.toArray) := by
    show items.toList.reverse.toArray.size ≤ sizeLine
    rw [List.size_toArray, List.length_reverse, Array.length_toList]
    exact hsz
  obtain ⟨os, hos, hcs, hds⟩ := id hs
  have hTs : s.TypeIs (.ref sl) "slice" := ⟨os, hos, hcs⟩
  unfold getItem
  try with_reducible refine wpAny_holding ?_
  first | refine wpAny_bind (wpAny_pure ?_) | skip
  refine wpAny_bind (wpAny_sequenceKey ht.typeIs (by decide) ?_)
  refine wpAny_bind (wpAny_callSpecial?_slot (name := Str.ofString "__getitem__") ht.typeIs PyProof.Rows.slot_tuple_getitem
    (wpAny_call_entry PyProof.Rows.slot_tuple_getitem ht.typeIs entry_tuple_getitem ?_ (args_tuple_getitem _ _)))
  show wpAny _ _ (Builtin.Tuple.tupleItemsOf (.ref t) >>= _) _ _ s
  refine wpAny_bind (tupleItemsOf_ ht ?_)
  refine wpAny_bind (wpAny_typeOf hTs ?_)
  rw [if_pos (by decide)]
  refine wpAny_bind (rev_applied hs pl pu ps ?_)
  have hno : ¬ ((((items.size : Int) - 1) == 0 && (-1 : Int) == 1 && items.size == items.size) = true) := by simp
  show wpAny _ _ (if (((items.size : Int) - 1) == 0 && (-1 : Int) == 1 && items.size == items.size) = true then _ else _) _ _ s
  rw [if_neg hno, pick_rev]
  first
    | exact wpAny_bind (m := Builtin.Tuple.tupleExact _) (wpAny_newObj_type (wpAny_pure ⟨_, rfl, wpAny_pure h⟩) htake)
    | exact wpAny_bind (m := Builtin.Tuple.tupleExact _) (wpAny_newObj_type (wpAny_bind (wpAny_pure (wpAny_pure ⟨_, rfl, wpAny_pure h⟩))) htake)
    | exact wpAny_bind (wpAny_bind (m := Builtin.Tuple.tupleExact _) (wpAny_newObj_type (wpAny_pure (wpAny_pure ⟨_, rfl, wpAny_pure h⟩)) htake))
    | exact wpAny_bind (wpAny_bind (m := Builtin.Tuple.tupleExact _) (wpAny_newObj_type (wpAny_pure ⟨_, rfl, wpAny_pure h⟩) htake))
end
/-! ### x[::-1] -/
def tRevA (K : PySem.W.Frag) (te : TE) : TE := fun σ H Q => te σ H fun x H1 => ∃ a xs, x = .ref a ∧ ((SqL K H1 a xs ∧ ∀ p, H1 p = none → Q (.ref p) (upd H1 p (.lst xs.reverse))) ∨ (SqT K H1 a xs ∧ ∀ p, H1 p = none → Q (.ref p) (upd H1 p (.tup xs.reverse))))
section
variable {X : Cx} {W : WX} {pos : Pos}
theorem pe_revA {e : Expr} {te : TE} {k : Nat} {p1 p2 p3 pos : Pos} (he : PE X e te) : PE X (.Subscript e (.Slice none none (some (.UnaryOp .USub (.Constant (.int 1) k p1) p2)) p3) pos) (tRevA X.K te) := by
  refine ⟨fun pins s σ H Q I h => ?_⟩
  refine Subscript_ (thn (he.run pins s σ H _ I h) fun v s1 ⟨x, H1, I1, r1, q1⟩ => ?_)
  obtain ⟨a, xs, ex, q1⟩ := q1
  subst ex
  cases r1
  have hst : PO X (some (.UnaryOp .USub (.Constant (.int 1) k p1) p2)) (tPart (tUn (rU fun i => .int (-i)) (tC (.int 1)))) := po_some (pe_un un_neg pe_int)
  refine wpAny_Slice (thn (po_none.run pins s1 σ H1 (fun o H2 => o = none ∧ H2 = H1) I1 ⟨rfl, rfl⟩) fun vl s2 ⟨l, H2, I2, pl, el, e2⟩ => ?_)
  subst el e2
  refine thn (po_none.run pins s2 σ H2 (fun o H3 => o = none ∧ H3 = H2) I2 ⟨rfl, rfl⟩) fun vu s3 ⟨u, H3, I3, pu, eu, e3⟩ => ?_
  subst eu e3
  refine thn (hst.run pins s3 σ H3 (fun o H4 => o = some (-1) ∧ H4 = H3) I3 ⟨1, rfl, -1, rfl, rfl, rfl⟩) fun vs s4 ⟨o, H4, I4, ps, eo, e4⟩ => ?_
  subst eo e4
  have I5 : Inv X pins σ H4 { s4 with heap := s4.heap.push { cls := .type "slice", data := .fields #[vl, vu, vs] } } := I4.kept (t' := s4.toks) fun b ob q => Heap.get?_push_of_some _ q
  show wpAny (model X.prog X.w) X.A (subscriptTail e (.Slice none none (some (.UnaryOp .USub (.Constant (.int 1) k p1) p2)) p3) (.ref a) (.ref s4.heap.objs.size)) (EP X pins σ Q) X.xe { s4 with heap := s4.heap.push { cls := .type "slice", data := .fields #[vl, vu, vs] } }
  rcases q1 with ⟨hx, q⟩ | ⟨hx, q⟩
  · obtain ⟨its, r, ht, hz⟩ := I5.list hx
    have hlen := r.length
    refine tail_any (ops := [.ref a, .ref s4.heap.objs.size]) ht.isList.typeIs (PySem.slot_list_getitem.lookup) ?_ (by with_unfolding_all rfl)
    refine wpAny_getItem_list_slice ht.isList (Heap.IsSliceOf.new _ vl vu vs) pl pu ps (by decide) ?_ (by rw [List.size_toArray]; omega)
    rw [PySem.W.krv_pick]
    refine ⟨.ref _, _, I5.laid (t' := s4.toks) (o := .lst xs.reverse) (fun b ob q => Heap.get?_push_of_some _ q) (Nat.le_refl _) ?_, rfl, q _ (I5.hok.fresh (Nat.le_refl _))⟩
    exact ⟨by rw [List.length_reverse]; exact hz, _, 0, r.reverse, Heap.get?_push_size _ rfl⟩
  · obtain ⟨its, r, ht, hz⟩ := I5.tuple hx
    have hlen := r.length
    refine tail_any (ops := [.ref a, .ref s4.heap.objs.size]) ht.typeIs (PyProof.Rows.slot_tuple_getitem.lookup) ?_ (by with_unfolding_all rfl)
    refine getItem_tuple_rev ht (Heap.IsSliceOf.new _ vl vu vs) pl pu ps ?_ (by rw [List.size_toArray]; omega)
    refine ⟨.ref _, _, I5.laid (t' := s4.toks) (o := .tup xs.reverse) (fun b ob q => Heap.get?_push_of_some _ q) (Nat.le_refl _) ?_, rfl, q _ (I5.hok.fresh (Nat.le_refl _))⟩
    exact ⟨by rw [List.length_reverse]; exact hz, _, r.reverse, IsTup.new _ _⟩
def dRev : D → Option D
  | .lst ds => some (.lst ds.reverse)
  | .tup ds => some (.tup ds.reverse)
  | _ => none
def revM (f : Mo Pl) : Mo D := f >>= look >>= fun d => Mo.lift (dRev d)
theorem se_rev {e : Expr} {f : Mo Pl} {k : Nat} {p1 p2 p3 pos : Pos} (he : PE X e (tP X.K W f)) : PE X (.Subscript e (.Slice none none (some (.UnaryOp .USub (.Constant (.int 1) k p1) p2)) p3) pos) (tE X.K W (f >>= fun p => look p >>= fun d => Mo.lift (dRev d))) := peI (pe_revA he) fun σ H Q q => by
  obtain ⟨φ, O, ρ, fm, q⟩ := q
  refine tX_mono (fin_bind (rel := rP X.K) fm q) fun x H1 ⟨O1, ρ1, p, f1, s1, r1, q1⟩ => ?_
  obtain ⟨d, ld, q1⟩ := fin_look f1 (rP_ok r1) q1
  obtain ⟨r, e, q1⟩ := fin_lift q1
  cases d with
  | lst ds =>
    cases e
    obtain ⟨a, us, rfl, ha, qa⟩ := ld
    exact ⟨a, us, rfl, .inl ⟨SqL.of ha, fun p hp => q1 _ O1 _ (f1.ext (Ext.new hp)) (Ext.new hp).stp (dt_lst_new f1.here hp (dtAll_rev qa))⟩⟩
  | tup ds =>
    cases e
    obtain ⟨a, us, rfl, ha, qa⟩ := lk_tup ld
    exact ⟨a, us, rfl, .inr ⟨ha.sq, fun p hp => q1 _ O1 _ (f1.ext (Ext.new hp)) (Ext.new hp).stp (dt_tup_new f1.here hp (dtAll_rev qa))⟩⟩
  | _ => cases e
/-! ### {} -/
theorem frz_step {H : Hp} {p : Addr} {ob : Obj} {es : List (Key × V)} (hp : H p = none) : Ext H (upd (upd H p (.dK es)) p (.frz ob (.dK es))) := fun a u e => by
  rw [upd_ne (ne_of_none e hp), upd_ne (ne_of_none e hp)]; exact e
theorem se_dnil : PE X (.Dict [] [] pos) (tE X.K W (pure (.dct []))) := by
  refine ⟨fun pins s σ H Q I ⟨φ, O, ρ, fm, q⟩ => ?_⟩
  refine wpAny_mono (pe_dnewK.run pins s σ H (fun v H' => ∃ p, v = .ref p ∧ H p = none ∧ H' = upd H p (.dK [])) I fun p hp => ⟨p, rfl, hp, rfl⟩) (fun u s' z => ?_) fun _ _ z => z
  obtain ⟨v, H', J, rv, p, rfl, hp, rfl⟩ := z
  obtain ⟨ob, J2⟩ := J.lock (d := p) (u := .dK []) upd_same trivial
  have ex := frz_step (H := H) (ob := ob) (es := []) hp
  refine ⟨.ref p, _, J2, rv, q _ O _ (fm.ext ex) ex.stp ?_⟩
  show Dt X.K O _ (.dct []) (.ref p)
  unfold Dt
  refine ⟨p, ob, [], rfl, fun z => ?_, upd_same, by unfold DtKv; rfl⟩
  obtain ⟨o, e⟩ := fm.here p z
  rw [hp] at e; cases e
/-! ### join -/
def dJoin (d e : D) : Option D := match d with
  | .str a => match e with
    | .lst ds => match txts ds with
      | some ys => if (ys.map (·.length)).sum + ys.length * a.length ≤ 16777216 then some (.str (Txt.join a ys)) else none
      | none => none
    | .tup ds => match txts ds with
      | some ys => if (ys.map (·.length)).sum + ys.length * a.length ≤ 16777216 then some (.str (Txt.join a ys)) else none
      | none => none
    | _ => none
  | _ => none
def joinG (g : Mo Pl) : D → Mo D
  | .str a => g >>= fun p => look p >>= fun e => Mo.lift (dJoin (.str a) e)
  | _ => fun _ => .no
def joinM (f : Mo D) (g : Mo Pl) : Mo D := f >>= joinG g
theorem join_cases {d e r : D} (h : dJoin d e = some r) : ∃ a ds ys, d = .str a ∧ (e = .lst ds ∨ e = .tup ds) ∧ txts ds = some ys ∧ (ys.map (·.length)).sum + ys.length * a.length ≤ 16777216 ∧ r = .str (Txt.join a ys) := by
  unfold dJoin at h
  split at h
  · split at h
    · split at h
      · split at h
        · cases h; exact ⟨_, _, _, rfl, .inl rfl, by assumption, by assumption, rfl⟩
        · cases h
      · cases h
    · split at h
      · split at h
        · cases h; exact ⟨_, _, _, rfl, .inr rfl, by assumption, by assumption, rfl⟩
        · cases h
      · cases h
    · cases h
  · cases h
theorem se_join {o e : Expr} {f : Mo D} {g : Mo Pl} {apos pos : Pos} (ho : PE X o (tE X.K W f)) (he : PE X e (tP X.K W g)) (hs : starEach [e] X.env = [(false, eval e X.env)] := by rfl) (hbase : attributeBase o "join" X.env (eval o X.env) = eval o X.env := by rfl) (hline : (apos.endLine == pos.line) = true := by rfl) :
    PE X (.Call (.Attribute o "join" apos) [e] [] pos) (tE X.K W (joinM f g)) := peI (pe_join ho he hs hbase hline) fun σ H Q q => by
  obtain ⟨φ, O, ρ, fm, q⟩ := q
  refine tX_mono (fin_bind (rel := rD X.K) fm q) fun x H1 ⟨O1, ρ1, d, f1, s1, r1, q1⟩ => ?_
  cases d with
  | str a =>
    have ex : x = .str a := by unfold rD Dt at r1; exact r1
    refine ⟨⟨a, ex⟩, ?_⟩
    refine tX_mono (fin_bind (rel := rP X.K) f1 (m := g) (k := fun p => look p >>= fun e => Mo.lift (dJoin (.str a) e)) q1) fun y H2 ⟨O2, ρ2, p, f2, s2, r2, q2⟩ => ?_
    obtain ⟨d2, l2, q2⟩ := fin_look f2 (rP_ok r2) q2
    obtain ⟨r, er, q3⟩ := fin_lift q2
    obtain ⟨a', ds, ys, ea, ed, et, hz, rfl⟩ := join_cases er
    cases ea
    rcases ed with rfl | rfl
    · obtain ⟨b, us, rfl, hb, qb⟩ := l2
      have := txts_vs qb et
      subst this
      exact ⟨a, b, ys, ex, rfl, .inl (SqL.of hb), hz, q3 _ O2 H2 f2 .refl dt_str⟩
    · obtain ⟨b, us, rfl, hb, qb⟩ := lk_tup l2
      have := txts_vs qb et
      subst this
      exact ⟨a, b, ys, ex, rfl, .inr (hb.sq), hz, q3 _ O2 H2 f2 .refl dt_str⟩
  | _ => exact q1.elim
end
end VS

namespace VS
open PySem PySem.Spec PyProof.Rows L2
/-! ### isinstance -/
inductive Ty where
  | non | bl | int | str | tup | lst | dct | set | flt | byt
deriving DecidableEq
def Ty.nm : Ty → String
  | .non => "NoneType" | .bl => "bool" | .int => "int" | .str => "str" | .tup => "tuple" | .lst => "list" | .dct => "dict" | .set => "set" | .flt => "float" | .byt => "bytes"
def isA : Ty → Ty → Bool
  | .bl, .int => true
  | .non, .non => true
  | .bl, .bl => true
  | .int, .int => true
  | .str, .str => true
  | .tup, .tup => true
  | .lst, .lst => true
  | .dct, .dct => true
  | .set, .set => true
  | .flt, .flt => true
  | .byt, .byt => true
  | _, _ => false
theorem kitB_isA : ∀ a b : Ty, kitB a.nm b.nm = some (isA a b) := by
  intro a b
  cases a <;> cases b <;> decide +kernel
def dTy : D → Option Ty
  | .non => some .non
  | .bl _ => some .bl
  | .int _ => some .int
  | .str _ => some .str
  | .tup _ => some .tup
  | .lst _ => some .lst
  | .dct _ => some .dct
  | .scr _ => some .lst
  | .kls _ => none
  | .err _ => none
  | .exn _ => none
  | .exc _ _ => none
  | .dtk _ => none
  | .ktu _ => none
  | .obj _ _ => none
def dIsi (ts : List Ty) (d : D) : Option D := (dTy d).map fun t => .bl (ts.any (isA t))
theorem lk_ty {K : PySem.W.Frag} {O : Ow} {H : Hp} {d : D} {v : V} {t : Ty} (l : Lk K O H d v) (e : dTy d = some t) : TyX K H v (.type t.nm) := by
  cases d with
  | non => cases e; rw [lk_non l]; exact .base .non
  | bl b => cases e; rw [lk_bl l]; exact .base (.bl b)
  | int i => cases e; rw [lk_int l]; exact .base (.int i)
  | str x => cases e; rw [lk_str l]; exact .base (.str x)
  | tup ds => cases e; obtain ⟨a, xs, rfl, h, _⟩ := lk_tup l; exact h.elim (fun h => .base (.tup h.2)) False.elim
  | lst ds => cases e; obtain ⟨a, xs, rfl, h, _⟩ := l; exact .base (.lst h)
  | dct ds => cases e; obtain ⟨a, xs, rfl, h, _⟩ := l; exact h.elim (fun h => .base (.dK h)) fun ⟨o, h⟩ => .fDict h
  | scr ns =>
    cases e
    unfold Lk Dt at l
    obtain ⟨a, rfl, l⟩ := l
    rcases l with ⟨_, o, h⟩ | ⟨o, its, n, h, c, _⟩
    · exact .base (.frz h)
    · exact .kList h c
  | obj _ _ => cases e
  | kls _ => cases e
  | err _ => cases e
  | exn _ => cases e
  | exc _ _ => cases e
  | dtk _ => cases e
  | ktu _ => cases e
section
variable {X : Cx} {W : WX} {e : Expr} {f : Mo Pl} {p p2 pos : Pos} {x : Str}
def isiM (ts : List Ty) (f : Mo Pl) : Mo D := f >>= fun q => look q >>= fun d => Mo.lift (dIsi ts d)
theorem se_isi (T : Ty) (he : PE X e (tP X.K W f)) (hm : X.mg "isinstance" = none) (hm2 : X.mg x = none) (hv2 : bootBuiltins x = some (.type T.nm) := by decide +kernel) (hg : Gl X "isinstance" := by rfl) (hg2 : Gl X x := by rfl) (hn2 : x ≠ "__name__" := by decide) (hd2 : (x == ("__debug__" : Str)) = false := by decide)
    (hs1 : starEach [e, .Name x p2] X.env = (false, eval e X.env) :: starEach [.Name x p2] X.env := by rfl) (hs2 : starEach [.Name x p2] X.env = (false, eval (.Name x p2) X.env) :: starEach [] X.env := by rfl) (hpl : (backTo pos (starEach [.Name x p2] X.env)).any (·.1) = false := by rfl) :
    PE X (.Call (.Name "isinstance" p) [e, .Name x p2] [] pos) (tE X.K W (isiM [T] f)) :=
  peI (pe_callB call_isi hg hm (by decide +kernel) (pa_cons he (pa_cons (pe_bltn hg2 hm2 hv2 (show RelV (.ty T.nm) (.type T.nm) from rfl) hn2 hd2) pa_nil hs2) hs1) (by decide) (by decide) hs1 hpl) fun σ H Q q => by
    obtain ⟨φ, O, ρ, fm, q⟩ := q
    refine tX_mono (fin_bind (rel := rP X.K) fm q) fun v H1 ⟨O1, ρ1, p, f1, s1, r1, q1⟩ => ?_
    obtain ⟨d, ld, q1⟩ := fin_look f1 (rP_ok r1) q1
    obtain ⟨r, er, q1⟩ := fin_lift q1
    unfold dIsi at er
    cases et : dTy d with
    | none => rw [et] at er; cases er
    | some t =>
      rw [et] at er
      cases er
      refine ⟨v, .ty T.nm, _, _, isA t T, rfl, .ty _, lk_ty ld et, kit_ty (kitB_isA t T), ?_⟩
      have z := q1 (.bl (isA t T)) O1 H1 f1 .refl (by
        have e : [T].any (isA t) = isA t T := by simp
        show Dt X.K O1 H1 (.bl ([T].any (isA t))) _
        rw [e]; exact dt_bl)
      exact z
end
end VS

namespace VS
open PySem PySem.Spec PyProof.Rows L2
/-! ### the end: the law is called -/
section
variable {P : Program} {w : World} {K : PySem.W.Frag} {mg mb : Str → Option Value} {s1 : Shared} {a : Addr} {vs : List Value} {ns : List Int} {H : Hp}
theorem ns_hid {b : Addr} {m : Str → Option Value} (nd : ∀ c (ob : Obj) es ep, s1.heap.get? c = some ob → ob.data = .dict es ep → H c = none) (h : s1.heap.Ns b m) : (hidT s1.heap H).Ns b m := by
  obtain ⟨ob, es, ep, e1, e2, e3⟩ := h
  exact ⟨ob, es, ep, hidT_get e1 (nd b ob es ep e1 e2), e2, e3⟩
theorem start_env (kin : K.In s1.heap) (g : s1.heap.Ns mainGlobals mg) (b : s1.heap.Ns builtinsNs mb) (bb : ∀ x : Str, x ≠ "__name__" → mb x = bootBuiltins x) (nl : s1.heap.NoLimit) (sy : ∃ mm, s1.heap.Ns sysModules mm) (gn : s1.gens = #[])
    (ok : HOk P w H s1.heap) (nd : ∀ c (ob : Obj) es ep, s1.heap.get? c = some ob → ob.data = .dict es ep → H c = none) (nk : ∀ c, H c ≠ none → K.lookup c = none) :
    Env0 P w K mg (hidT s1.heap H) callerA [] s1 H ∧ Sys (hidT s1.heap H) := by
  have kin' : K.In (hidT s1.heap H) := by
    intro c ob e
    refine hidT_get (kin c ob e) ?_
    cases q : H c with
    | none => rfl
    | some u =>
      have z := nk c (by rw [q]; exact fun z => nomatch z)
      rw [e] at z
      cases z
  obtain ⟨mc, l1, l2⟩ := nl
  obtain ⟨mm, ob, es, ep, e1, e2, _⟩ := sy
  have m : Mod K mg (hidT s1.heap H) := ⟨kin', ns_hid nd g, ⟨mb, ns_hid nd b, bb⟩, ⟨mc, ns_hid nd l1, l2⟩⟩
  refine ⟨⟨rfl, m, fun c o e => of_hidT e, by rw [hidT_size]; exact Nat.le_refl _, trivial, fun c hc => ?_, ok, .of_eq gn⟩, ob, hidT_get e1 (nd _ _ _ _ e1 e2)⟩
  cases (show c ∈ ([] : List Addr) from hc)
abbrev EndT (s1 : Shared) : Result → Shared → Prop := fun r s' => r = .ok (.ret (.bool true)) ∧ OldK s1.heap s'.heap ∧ s'.os = s1.os ∧ AllBare s'.gens
theorem law_run {k : Nat} {fa : Addr} {fd : FuncData} {x : Str} {F : FF} (kin : K.In s1.heap) (g : s1.heap.Ns mainGlobals mg) (b : s1.heap.Ns builtinsNs mb) (bb : ∀ x : Str, x ≠ "__name__" → mb x = bootBuiltins x) (nl : s1.heap.NoLimit) (sy : ∃ mm, s1.heap.Ns sysModules mm) (gn : s1.gens = #[])
    (obj : s1.heap.get? a = some { cls := .type "list", data := .seq vs.toArray }) (its0 : IntsAre vs ns) (few : ns.length ≤ sizeLine) (rm : Room k callerA) (hb : ∀ (s : Shared) (u : Value), BindsTo s fd ⟨[u], []⟩ [(x, u)])
    (Fn : ∀ base : Heap, K.In base → base.Ns mainGlobals mg → Sys base → FnG P w K mg base k fa fd [x] (SpF K false 1 F)) (hF : F none [.scr ns] = .ok (.bl true) none) : codeAny (model P w) callerA (.call (.ref fa) ⟨[.ref a], []⟩) (EndT s1) s1 := by
  have rv := vals_ints its0
  have lenV := its0.length
  suffices core : ∀ H : Hp, Dt K (fun _ => False) H (.scr ns) (.ref a) → HOk P w H s1.heap → (∀ c, H c ≠ none → c = a ∧ K.lookup a = none) → (∀ c, H c = none ∨ ∃ o xs, H c = some (.frz o (.lst xs))) → codeAny (model P w) callerA (.call (.ref fa) ⟨[.ref a], []⟩) (EndT s1) s1 by
    cases hk : K.lookup a with
    | some o =>
      have e := kin a o hk
      rw [obj] at e
      cases e
      refine core (fun _ => none) ?_ (fun c u z => nomatch z) (fun c z => absurd rfl z) (fun c => .inl rfl)
      unfold Dt
      exact ⟨a, rfl, .inr ⟨_, vs.toArray, _, hk, rfl, rfl, rfl, by rw [List.size_toArray, lenV]; exact few, by simpa using rv⟩⟩
    | none =>
      let o0 : Obj := { cls := .type "list", data := .seq vs.toArray }
      have at1 : ∀ {c : Addr}, (if c = a then some (HO.frz o0 (.lst (ns.map V.int))) else none) ≠ none → c = a := fun {c} z => by
        by_cases q : c = a
        · exact q
        · rw [if_neg q] at z; exact absurd rfl z
      refine core (fun c => if c = a then some (.frz o0 (.lst (ns.map V.int))) else none) ?_ (fun c u z => ?_) (fun c z => ⟨at1 z, hk⟩) (fun c => ?_)
      · unfold Dt
        exact ⟨a, rfl, .inl ⟨fun z => z, o0, if_pos rfl⟩⟩
      · have q := at1 (c := c) fun e => (by have z' := e.symm.trans z; cases z')
        subst q
        have z' := (if_pos rfl).symm.trans z
        cases z'
        exact ⟨obj, by rw [List.length_map]; exact few, vs, _, rv, obj⟩
      · by_cases q : c = a
        · exact .inr ⟨_, _, if_pos q⟩
        · exact .inl (if_neg q)
  intro H dt ok onlyA frz
  have nd : ∀ c (ob : Obj) es ep, s1.heap.get? c = some ob → ob.data = .dict es ep → H c = none := by
    intro c ob es ep e d
    cases q : H c with
    | none => rfl
    | some u =>
      have z := (onlyA c (by rw [q]; exact fun z => nomatch z)).1
      subst z
      rw [obj] at e
      cases e
      cases d
  have nk : ∀ c, H c ≠ none → K.lookup c = none := fun c z => by
    obtain ⟨rfl, e⟩ := onlyA c z
    exact e
  obtain ⟨e0, sys⟩ := start_env kin g b bb nl sy gn ok nd nk
  have spec : SpF K false 1 F [.ref a] H (fun v _ => v = .bl true) (fun _ _ _ => False) := by
    refine ⟨fun _ => False, none, none, [.scr ns], [.ref a], rfl, rfl, fun c z => z.elim, trivial, by unfold DtAll; exact ⟨_, [], rfl, dt, by unfold DtAll; rfl⟩, ?_⟩
    rw [hF]
    intro v H' _ _ z
    rw [if_neg (by decide)] at z
    unfold Dt at z
    exact z
  refine codeAny_mono ((Fn _ e0.mod.kin (ns_hid nd g) sys).go callerA [] s1 H ⟨[.ref a], []⟩ [.ref a] [.ref a] _ _ (fun _ => rfl) rm e0 (hb s1 (.ref a)) (.cons rfl .nil) spec) fun r s' h => ?_
  cases r with
  | error e =>
    obtain ⟨_, _, _, _, _, _, _, _, _, _, _, _, z⟩ := h
    exact z.elim
  | ok fl =>
    cases fl with
    | ret u =>
      obtain ⟨v, H', os, bare, un, ok', r', q⟩ := h
      have q' : v = .bl true := q
      subst q'
      have eu : u = Value.bool true := r'
      subst eu
      refine ⟨rfl, OldK.of_keep fun c o e => ?_, os, bare⟩
      rcases frz c with q | ⟨ob, xs, q⟩
      · exact un.keep c o e q (fun z => nomatch z) (by simp)
      · have q2 := un.frzs c ob _ q
        obtain ⟨e1, _⟩ := ok c _ q
        obtain ⟨e2, _⟩ := ok' c _ q2
        rw [e] at e1
        cases e1
        exact e2
    | next => exact h.elim
    | brk => exact h.elim
    | cont => exact h.elim
end
/-- the goal that k_head leaves (case hc) -/
theorem walk_data {l : PySem.W.OpenLaw} {n k : Nat} {q : Program} {loose : List Str} {XP : (Str → Option Value) → Heap → Prop} {YP : World → Heap → Prop} {d : DefRec} {K : Params → PySem.W.Frag} {x : Str} {F : FF} (hn : l.most = some n) (hn2 : n ≤ sizeLine) (hdf : d.params.defaults = []) (hr : Room k callerA) (hi : importsNone q = true)
    (hY : ∀ (w : World) (h : Heap), YP w h → (K w.params).In h)
    (Fn : ∀ (w : World) (mg : Str → Option Value) (fa : Addr) (h : Heap), (K w.params).In h → h.Ns mainGlobals mg → mg d.name = some (.ref fa) → ∃ fd : FuncData, (∀ (s : Shared) (u : Value), BindsTo s fd ⟨[u], []⟩ [(x, u)]) ∧
      ∀ base : Heap, (K w.params).In base → base.Ns mainGlobals mg → Sys base → FnG l.prog w (K w.params) mg base k fa fd [x] (SpF (K w.params) false 1 F))
    (hF : ∀ ns : List Int, ns.length ≤ n → (∀ z ∈ ns, Builtin.Int.intBits z ≤ 1048576) → F none [.scr ns] = .ok (.bl true) none) : PySem.W.WalkO q loose XP YP l.row.toRowW d [] (fun f vs => PySem.call f vs) := by
  refine Att.attach_callB hn hdf fun w s₀ s₁ mg mb fa o pm cd doc a vs ns G Y ho hd hcd hmg hobj hints hlen hbits hg => ?_
  have kin := hY w _ Y
  obtain ⟨fd, hb, fn⟩ := Fn w mg fa _ kin G.T.g hmg
  obtain ⟨mm, hm, _⟩ := (G.T.seer hi).mods
  exact law_run kin G.T.g G.T.b G.T.builtins G.T.nolimit ⟨mm, hm⟩ hg hobj hints (Nat.le_trans hlen hn2) hr hb fn (hF ns hlen hbits)
end VS

namespace VS
variable {gf : Bool}
open PySem PySem.Spec PyProof.Rows L2
/-- a def that is known: x stands for it, it keeps its promise -/
structure Df (P : Program) (w : World) (K : PySem.W.Frag) (mg : Str → Option Value) (base : Heap) (j : Nat) (x : Str) (f : Addr) (fd : FuncData) (ps : List Str) (new : Bool) (F : FF) (gf : Bool := false) : Prop where
  fn : FnG P w K mg base j f fd ps (SpF K new ps.length F) gf
  at' : mg x = some (.ref f)
  kp : PySem.W.keepIn K (.ref f) = true
  bd : Binds K fd ps []
section
variable {X : Cx} {W : WX} {j k : Nat} {f : Addr} {fd : FuncData} {ps : List Str} {x y : Str} {p p2 pos : Pos} {e : Expr} {es : List Expr} {F : FF} {g : Mo (List D)}
theorem ar_none {u : Bool} {n : Nat} (ar : Ar F u n) : ∀ ds, F none ds ≠ .no → ds.length = n := fun ds h => (ar none ds h).2
theorem se_def (Dd : Df X.prog X.w X.K X.mg X.base j x f fd ps false F gf) (ar : Ar F false ps.length) (cn : Cn X W k gf) (ha : PA X (e :: es) (tA X.K W g)) (hj : j ≤ k := by decide) (hg : Gl X x := by rfl)
    (hd : (x == ("__debug__" : Str)) = false := by decide) (he : starEach (e :: es) X.env = (false, eval e X.env) :: starEach es X.env := by rfl) (hpl : (backTo pos (starEach es X.env)).any (·.1) = false := by rfl) : PE X (.Call (.Name x p) (e :: es) [] pos) (tE X.K W (callM F g)) :=
  se_call (Dd.fn.up hj) (ar_none ar) cn Dd.at' Dd.kp Dd.bd ha hg hd he hpl
theorem sf_def (Dd : Df X.prog X.w X.K X.mg X.base j x f fd ps true F gf) (ar : Ar F false ps.length) (cn : Cn X W k gf) (ha : PA X (e :: es) (tA X.K W g)) (hj : j ≤ k := by decide) (hg : Gl X x := by rfl)
    (hd : (x == ("__debug__" : Str)) = false := by decide) (he : starEach (e :: es) X.env = (false, eval e X.env) :: starEach es X.env := by rfl) (hpl : (backTo pos (starEach es X.env)).any (·.1) = false := by rfl) : PE X (.Call (.Name x p) (e :: es) [] pos) (tF X.K W (callM F g)) :=
  sf_call (Dd.fn.up hj) (ar_none ar) cn Dd.at' Dd.kp Dd.bd ha hg hd he hpl
variable {n : Nat}
theorem se_defU (i : Nat) (Dd : Df X.prog X.w X.K X.mg X.base j x f fd ps false F gf) (ar : Ar F true n) (cn : Cn X W k gf) (ha : PA X (.Name y p2 :: es) (tCons (tVar i) (tA X.K W g))) (hn : ps.length = n + 1 := by rfl) (hj : j ≤ k := by decide) (hg : Gl X x := by rfl)
    (hd : (x == ("__debug__" : Str)) = false := by decide) (he : starEach (.Name y p2 :: es) X.env = (false, eval (.Name y p2) X.env) :: starEach es X.env := by rfl) (hpl : (backTo pos (starEach es X.env)).any (·.1) = false := by rfl) : PE X (.Call (.Name x p) (.Name y p2 :: es) [] pos) (tE X.K W (callIo i F g)) :=
  se_callU (n := n) i (by have z := Dd.fn.up hj; rw [hn] at z; exact z) ar cn Dd.at' Dd.kp Dd.bd ha hg hd he hpl
theorem sf_defU (i : Nat) (Dd : Df X.prog X.w X.K X.mg X.base j x f fd ps true F gf) (ar : Ar F true n) (cn : Cn X W k gf) (ha : PA X (.Name y p2 :: es) (tCons (tVar i) (tA X.K W g))) (hn : ps.length = n + 1 := by rfl) (hj : j ≤ k := by decide) (hg : Gl X x := by rfl)
    (hd : (x == ("__debug__" : Str)) = false := by decide) (he : starEach (.Name y p2 :: es) X.env = (false, eval (.Name y p2) X.env) :: starEach es X.env := by rfl) (hpl : (backTo pos (starEach es X.env)).any (·.1) = false := by rfl) : PE X (.Call (.Name x p) (.Name y p2 :: es) [] pos) (tF X.K W (callIo i F g)) :=
  sf_callU (n := n) i (by have z := Dd.fn.up hj; rw [hn] at z; exact z) ar cn Dd.at' Dd.kp Dd.bd ha hg hd he hpl
theorem op_eqC (cn : Cn X W k gf) : OpR X (compareOp .Eq) (rEqA X.K) := OpR.or2 op_eq (op_eqD cn.rm.units)
theorem op_neC (cn : Cn X W k gf) : OpR X (compareOp .NotEq) (rNeA X.K) := OpR.or2 op_ne (op_neD cn.rm.units)
def dNeg : D → Option D
  | .int i => some (.int (-i))
  | _ => none
def negM (f : Mo D) : Mo D := f >>= fun d => Mo.lift (dNeg d)
theorem se_neg {a : Expr} {f : Mo D} (ha : PE X a (tE X.K W f)) : PE X (.UnaryOp .USub a pos) (tE X.K W (negM f)) := peI (pe_un un_neg ha) fun σ H Q q => by
  obtain ⟨φ, O, ρ, fm, q⟩ := q
  refine tX_mono (fin_bind (rel := rD X.K) fm q) fun v H1 ⟨O1, ρ1, d, f1, s1, r1, q1⟩ => ?_
  obtain ⟨r, e, q1⟩ := fin_lift q1
  cases d with
  | int i =>
    cases e
    have ev : v = .int i := by unfold rD Dt at r1; exact r1
    exact ⟨i, ev, q1 _ O1 H1 f1 .refl dt_int⟩
  | _ => cases e
theorem se_negC {i : Int} {j : Nat} {p : Pos} : PE X (.UnaryOp .USub (.Constant (.int i) j p) pos) (tE X.K W (pure (.int (-i)))) := peI (pe_un un_neg pe_int) fun σ H Q ⟨φ, O, ρ, f, q⟩ => ⟨i, rfl, q _ O H f .refl dt_int⟩
def revP (f : Mo Pl) : Mo D := f >>= fun p => look p >>= fun d => Mo.lift (dRev d)
end
end VS

namespace VS
open PySem PySem.Spec PyProof.Rows L2
/-! ### a def's function, by its meaning -/
def ioAt : Option Sl → Option (Option D)
  | some (.iox 0 d) => some (some d)
  | _ => none
def ioOf (u : Bool) (ρ : List Sl) : Option (Option D) := if u = true then ioAt ρ[0]? else some none
def outF (new u : Bool) : Rs Out → Fo
  | .no => .no
  | .ex e ρ => match ioOf u ρ with
    | some io => .ex e io
    | none => .no
  | .ok o ρ => match ioOf u ρ with
    | some io => match o with
      | .nx => if new = true then .no else .ok .non io
      | .rt d => if new = true then .no else .ok d io
      | .rn d => if new = true then .ok d io else .no
      | _ => .no
    | none => .no
@[simp] def frame (N : Nat) (io : Option D) (ds : List D) : List Sl := ((io.toList.map Sl.io) ++ ds.map Sl.dat) ++ List.replicate (N - ((io.toList.map Sl.io) ++ ds.map Sl.dat).length) Sl.no
/-- np: how many arguments beside the one that is changed -/
def runF (new u : Bool) (np N : Nat) (m : Mo Out) : FF := fun io ds => if io.isSome = u ∧ ds.length = np then outF new u (m (frame N io ds)) else .no
theorem ar_run {new u : Bool} {np N : Nat} {m : Mo Out} : Ar (runF new u np N m) u np := fun io ds h => by
  unfold runF at h
  split at h
  · assumption
  · exact absurd rfl h
theorem io_end {u : Bool} {io io' : Option D} {ρ : List Sl} (h0 : io.isSome = u) (h : ioOf u ρ = some io') : ioEnd io io' ρ := by
  unfold ioOf at h
  cases io with
  | none =>
    subst h0
    rw [if_neg (by decide)] at h
    cases h
    first | rfl | (unfold wp; rfl)
  | some d =>
    subst h0
    have h : ioAt ρ[0]? = some io' := h
    cases e : ρ[0]? with
    | none => rw [e] at h; cases h
    | some s =>
      rw [e] at h
      cases s with
      | iox j0 d' => cases j0 with
        | zero => cases h; exact ⟨d', rfl, e⟩
        | succ j => cases h
      | _ => cases h
theorem bodyOk_run {new u : Bool} {np N : Nat} {m : Mo Out} : bodyOk (runF new u np N m) new m N := by
  intro io ds r e hr
  unfold runF at e
  split at e
  · rename_i h
    show match m (frame N io ds) with
      | .no => False
      | .ex e ρ' => ∃ io', r = .ex e io' ∧ ioEnd io io' ρ'
      | .ok out ρ' => ∃ d io', r = .ok d io' ∧ ioEnd io io' ρ' ∧ match out with
        | .nx => d = .non ∧ new = false
        | .rt d' => d = d' ∧ new = false
        | .rn d' => d = d' ∧ new = true
        | _ => False
    cases hm : m (frame N io ds) with
    | no => rw [hm] at e; exact hr e.symm
    | ex x ρ =>
      rw [hm] at e
      unfold outF at e
      dsimp only at e
      cases hi : ioOf u ρ with
      | none => rw [hi] at e; exact (hr e.symm).elim
      | some io' => rw [hi] at e; exact ⟨io', e.symm, io_end h.1 hi⟩
    | ok o ρ =>
      rw [hm] at e
      unfold outF at e
      dsimp only at e
      cases hi : ioOf u ρ with
      | none => rw [hi] at e; exact (hr e.symm).elim
      | some io' =>
        rw [hi] at e
        cases new with
        | true => cases o with
          | rn d => exact ⟨d, io', e.symm, io_end h.1 hi, rfl, rfl⟩
          | _ => exact (hr e.symm).elim
        | false => cases o with
          | nx => exact ⟨.non, io', e.symm, io_end h.1 hi, rfl, rfl⟩
          | rt d => exact ⟨d, io', e.symm, io_end h.1 hi, rfl, rfl⟩
          | _ => exact (hr e.symm).elim
  · exact (hr e.symm).elim
/-! ### what comes of a meaning -/
def wpR {α : Type} (r : Rs α) (Q : α → List Sl → Prop) (R : Ex → List Sl → Prop) : Prop := match r with
  | .no => False
  | .ok a ρ => Q a ρ
  | .ex e ρ => R e ρ
@[irreducible] def wp {α : Type} (m : Mo α) (ρ : List Sl) (Q : α → List Sl → Prop) (R : Ex → List Sl → Prop) : Prop := wpR (m ρ) Q R
section
variable {α β : Type} {ρ : List Sl} {Q : α → List Sl → Prop} {Q2 : β → List Sl → Prop} {R : Ex → List Sl → Prop}
@[simp] theorem wpR_ok {a : α} : wpR (.ok a ρ) Q R = Q a ρ := rfl
@[simp] theorem wpR_no : wpR (.no : Rs α) Q R = False := rfl
@[simp] theorem wpR_ex {e : Ex} : wpR (.ex e ρ : Rs α) Q R = R e ρ := rfl
@[simp] theorem wp_bind {m : Mo α} {k : α → Mo β} : wp (m >>= k) ρ Q2 R = wp m ρ (fun a ρ' => wp (k a) ρ' Q2 R) R := by
  unfold wp
  rw [bind_eq]
  cases m ρ <;> (first | rfl | (unfold wp; rfl))
@[simp] theorem wp_pure {a : α} : wp (pure a : Mo α) ρ Q R = Q a ρ := by unfold wp; rfl
@[simp] theorem wp_some {a : α} : wp (Mo.lift (some a)) ρ Q R = Q a ρ := by unfold wp; rfl
@[simp] theorem wp_none : wp (Mo.lift (none : Option α)) ρ Q R = False := by unfold wp; rfl
@[simp] theorem wp_no : wp (fun _ => Rs.no : Mo α) ρ Q R = False := by unfold wp; rfl
@[simp] theorem wp_ite {c : Prop} [Decidable c] {a b : Mo α} : wp (if c then a else b) ρ Q R = if c then wp a ρ Q R else wp b ρ Q R := by split <;> (first | rfl | (unfold wp; rfl))
@[simp] theorem wp_lite {c : Prop} [Decidable c] {a b : Option α} : wp (Mo.lift (if c then a else b)) ρ Q R = if c then wp (Mo.lift a) ρ Q R else wp (Mo.lift b) ρ Q R := by split <;> (first | rfl | (unfold wp; rfl))
theorem wp_mono {m : Mo α} {Q' : α → List Sl → Prop} (h : wp m ρ Q R) (i : ∀ a ρ', Q a ρ' → Q' a ρ') : wp m ρ Q' R := by
  unfold wp wpR at h ⊢
  split at h
  · exact h
  · exact i _ _ h
  · exact h
@[simp] theorem wp_slot {i : Nat} {Q : Pl → List Sl → Prop} : wp (slotM i) ρ Q R = wpR (slotR i ρ ρ[i]?) Q R := by unfold wp; rfl
@[simp] theorem wp_lookS {i : Nat} {Q : D → List Sl → Prop} : wp (look (.slot i)) ρ Q R = wpR (lookR ρ ρ[i]?) Q R := by unfold wp; rfl
@[simp] theorem wp_lookI {d : D} {Q : D → List Sl → Prop} : wp (look (.imm d)) ρ Q R = Q d ρ := by unfold wp; rfl
@[simp] theorem wp_leakS {i : Nat} {Q : D → List Sl → Prop} : wp (leak (.slot i)) ρ Q R = wpR (leakR i ρ ρ[i]?) Q R := by unfold wp; rfl
@[simp] theorem wp_leakI {d : D} {Q : D → List Sl → Prop} : wp (leak (.imm d)) ρ Q R = Q d ρ := by unfold wp; rfl
/-- by a truth -/
def onB (d : D) (p q : Prop) : Prop := match d with
  | .bl true => p
  | .bl false => q
  | _ => False
@[simp] theorem onB_bl {b : Bool} {p q : Prop} : onB (.bl b) p q = if b = true then p else q := by cases b <;> (first | rfl | (unfold wp; rfl))
variable {f g : Mo D} {Qd : D → List Sl → Prop}
@[simp] theorem wp_andV : wp (andV f g) ρ Qd R = wp f ρ (fun d ρ' => onB d (wp g ρ' Qd R) (Qd (.bl false) ρ')) R := by
  unfold andV
  rw [wp_bind]
  congr 1
  funext d ρ'
  cases d with
  | bl b => cases b <;> (first | rfl | (unfold wp; rfl))
  | _ => first | rfl | (unfold wp; rfl)
@[simp] theorem wp_orV : wp (orV f g) ρ Qd R = wp f ρ (fun d ρ' => onB d (Qd (.bl true) ρ') (wp g ρ' Qd R)) R := by
  unfold orV
  rw [wp_bind]
  congr 1
  funext d ρ'
  cases d with
  | bl b => cases b <;> (first | rfl | (unfold wp; rfl))
  | _ => first | rfl | (unfold wp; rfl)
@[simp] theorem wp_test {Q : Bool → List Sl → Prop} : wp (testM f) ρ Q R = wp f ρ (fun d ρ' => onB d (Q true ρ') (Q false ρ')) R := by
  unfold testM
  rw [wp_bind]
  congr 1
  funext d ρ'
  cases d with
  | bl b => cases b <;> (first | rfl | (unfold wp; rfl))
  | _ => first | rfl | (unfold wp; rfl)
@[simp] theorem wp_ch {h h' : D → D → Option D} {f g l : Mo Pl} : wp (chM h h' f g l) ρ Qd R = wp f ρ (fun p ρ1 => wp g ρ1 (fun q ρ2 => wp (look p) ρ2 (fun x ρ3 => wp (look q) ρ3 (fun y ρ4 => wp (Mo.lift (h x y)) ρ4 (fun r ρ5 => onB r (wp l ρ5 (fun s ρ6 => wp (look q) ρ6 (fun y ρ7 => wp (look s) ρ7 (fun z ρ8 => wp (Mo.lift (h' y z)) ρ8 Qd R) R) R) R) (Qd (.bl false) ρ5)) R) R) R) R) R := by
  unfold chM
  simp only [wp_bind]
  congr 1
  funext p ρ1
  congr 1
  funext q ρ2
  congr 1
  funext x ρ3
  congr 1
  funext y ρ4
  congr 1
  funext r ρ5
  cases r with
  | bl b =>
    cases b with
    | true =>
      show wp (l >>= fun s => look q >>= fun y => look s >>= fun z => Mo.lift (h' y z)) ρ5 Qd R = _
      simp only [wp_bind]
      first | rfl | (unfold wp; rfl)
    | false => first | rfl | (unfold wp; rfl)
  | _ => first | rfl | (unfold wp; rfl)
/-! for -/
def onO (Q : Out → List Sl → Prop) (N : List Sl → Prop) : Out → List Sl → Prop
  | .nx, ρ => N ρ
  | .ct, ρ => N ρ
  | .bk, ρ => Q .nx ρ
  | .rt d, ρ => Q (.rt d) ρ
  | .rn d, ρ => Q (.rn d) ρ
@[simp] theorem wp_tg {t : Tm} {d : D} {Q : Unit → List Sl → Prop} : wp (tgM t d) ρ Q R = match t d ρ with
    | none => False
    | some ρ' => Q () ρ' := by
  unfold wp tgM
  cases t d ρ <;> (first | rfl | (unfold wp; rfl))
@[simp] theorem wp_for_nil {t : Tm} {m : Mo Out} {Q : Out → List Sl → Prop} : wp (forL t m []) ρ Q R = Q .nx ρ := by unfold wp; rfl
theorem wp_for_cons {t : Tm} {m : Mo Out} {d : D} {ds : List D} {Q : Out → List Sl → Prop} : wp (forL t m (d :: ds)) ρ Q R = wp (tgM t d) ρ (fun _ ρ1 => wp m ρ1 (onO Q fun ρ2 => wp (forL t m ds) ρ2 Q R) R) R := by
  show wp (tgM t d >>= fun _ => m >>= fun o => match o with
    | .nx => forL t m ds
    | .ct => forL t m ds
    | .bk => pure .nx
    | .rt d => pure (.rt d)
    | .rn d => pure (.rn d)) ρ Q R = _
  rw [wp_bind]
  congr 1
  funext _ ρ1
  rw [wp_bind]
  congr 1
  funext o ρ2
  cases o <;> (first | rfl | (unfold wp; rfl))
/-- a loop by what holds ahead of each turn -/
theorem wp_for {t : Tm} {m : Mo Out} {ds : List D} {Q : Out → List Sl → Prop} (I : Nat → List Sl → Prop) (h0 : I 0 ρ) (hn : ∀ ρ', I ds.length ρ' → Q .nx ρ')
    (hs : ∀ i d ρ', ds[i]? = some d → I i ρ' → wp (tgM t d) ρ' (fun _ ρ1 => wp m ρ1 (onO Q (I (i + 1))) R) R) : wp (forL t m ds) ρ Q R := by
  induction ds generalizing ρ I with
  | nil => rw [wp_for_nil]; exact hn ρ h0
  | cons d ds ih =>
    rw [wp_for_cons]
    refine wp_mono (hs 0 d ρ rfl h0) fun _ ρ1 h1 => wp_mono h1 fun o ρ2 h2 => ?_
    have go : I 1 ρ2 → wp (forL t m ds) ρ2 Q R := fun h => ih (fun i => I (i + 1)) h (fun ρ' h => hn ρ' h) fun i d ρ' e h => hs (i + 1) d ρ' e h
    cases o with
    | nx => exact go h2
    | ct => exact go h2
    | bk => exact h2
    | rt d => exact h2
    | rn d => exact h2
/-! list comprehensions -/
@[simp] theorem wp_lc {vs : List Nat} {src : Mo (List D)} {t : Tm} {c : Mo Bool} {e : Mo D} : wp (lcM vs src t c e) ρ Qd R = wp src ρ (fun ds ρ' => wpR (lcR vs t c e [] ds (wipeS ρ' vs)) Qd R) R := by
  have h := wp_bind (ρ := ρ) (Q2 := Qd) (R := R) (m := src) (k := fun ds => (fun ρ => lcR vs t c e [] ds (wipeS ρ vs) : Mo D))
  unfold wp at h ⊢
  exact h
/-- no exceptions within -/
abbrev R0 : Ex → List Sl → Prop := fun _ _ => False
theorem lc_inv {vs : List Nat} {t : Tm} {c : Mo Bool} {e : Mo D} {ds acc : List D} (I : Nat → List D → List Sl → Prop) (h0 : I 0 acc ρ) (hn : ∀ acc' ρ', I ds.length acc' ρ' → Qd (.lst acc') ρ')
    (hs : ∀ i d acc' ρ', ds[i]? = some d → I i acc' ρ' → ∃ ρ2, t d ρ' = some ρ2 ∧ wp c ρ2 (fun b ρ3 => if b = true then wp e ρ3 (fun x ρ4 => acc'.length < sizeLine ∧ I (i + 1) (acc' ++ [x]) (wipeS ρ4 vs)) R0 else I (i + 1) acc' (wipeS ρ3 vs)) R0) : wpR (lcR vs t c e acc ds ρ) Qd R := by
  induction ds generalizing acc ρ I with
  | nil => exact hn acc ρ h0
  | cons d ds ih =>
    unfold lcR
    obtain ⟨ρ2, e1, h1⟩ := hs 0 d acc ρ rfl h0
    rw [e1]
    dsimp only
    unfold wp wpR at h1
    cases e2 : c ρ2 with
    | no => rw [e2] at h1; exact h1.elim
    | ex _ _ => rw [e2] at h1; exact h1.elim
    | ok b ρ3 =>
      rw [e2] at h1
      cases b with
      | false =>
        exact ih (fun i => I (i + 1)) h1 (fun a r h => hn a r h) fun i d a r q h => hs (i + 1) d a r q h
      | true =>
        have h1' : wp e ρ3 (fun x ρ4 => acc.length < sizeLine ∧ I 1 (acc ++ [x]) (wipeS ρ4 vs)) R0 := by unfold wp wpR; exact h1
        unfold wp wpR at h1'
        cases e3 : e ρ3 with
        | no => rw [e3] at h1'; exact h1'.elim
        | ex _ _ => rw [e3] at h1'; exact h1'.elim
        | ok x ρ4 =>
          rw [e3] at h1'
          dsimp only
          rw [e3]
          dsimp only
          rw [if_pos h1'.1]
          exact ih (fun i => I (i + 1)) h1'.2 (fun a r h => hn a r h) fun i d a r q h => hs (i + 1) d a r q h
end
end VS

namespace VS
open PySem PySem.Spec PyProof.Rows L2
section
variable {α β : Type} {ρ : List Sl} {R : Ex → List Sl → Prop} {Qd : D → List Sl → Prop} {Qo : Out → List Sl → Prop} {Qb : Bool → List Sl → Prop} {f g : Mo D} {a b : Mo Out} {c : Mo Bool} {i j : Nat} {d e : D}
@[simp] theorem slotR_dat : slotR i ρ (some (.dat d)) = .ok (.slot i) ρ := rfl
@[simp] theorem slotR_own : slotR i ρ (some (.own d)) = .ok (.slot i) ρ := rfl
@[simp] theorem slotR_io : slotR i ρ (some (.io d)) = .ok (.slot i) ρ := rfl
@[simp] theorem lookR_dat : lookR ρ (some (.dat d)) = .ok d ρ := rfl
@[simp] theorem lookR_own : lookR ρ (some (.own d)) = .ok d ρ := rfl
@[simp] theorem lookR_io : lookR ρ (some (.io d)) = .ok d ρ := rfl
@[simp] theorem leakR_dat : leakR i ρ (some (.dat d)) = .ok d ρ := rfl
@[simp] theorem leakR_own {d : D} : leakR i ρ (some (.own d)) = .ok d (ρ.set i (.dat d)) := rfl
@[simp] theorem wp_immM {Q : Pl → List Sl → Prop} : wp (immM f) ρ Q R = wp f ρ (fun d ρ' => Q (.imm d) ρ') R := by unfold immM; simp
@[simp] theorem wp_opM {h : D → D → Option D} {f g : Mo Pl} : wp (opM h f g) ρ Qd R = wp f ρ (fun p ρ1 => wp g ρ1 (fun q ρ2 => wp (look p) ρ2 (fun x ρ3 => wp (look q) ρ3 (fun y ρ4 => wp (Mo.lift (h x y)) ρ4 Qd R) R) R) R) R := by unfold opM; simp
@[simp] theorem wp_notV : wp (notV c) ρ Qd R = wp c ρ (fun b ρ' => Qd (.bl (!b)) ρ') R := by unfold notV; simp
@[simp] theorem wp_andT {c c' : Mo Bool} : wp (andT c c') ρ Qb R = wp c ρ (fun b ρ' => if b = true then wp c' ρ' Qb R else Qb false ρ') R := by unfold andT; simp
@[simp] theorem wp_orT {c c' : Mo Bool} : wp (orT c c') ρ Qb R = wp c ρ (fun b ρ' => if b = true then Qb true ρ' else wp c' ρ' Qb R) R := by unfold orT; simp
@[simp] theorem wp_notT : wp (notT c) ρ Qb R = wp c ρ (fun b ρ' => Qb (!b) ρ') R := by unfold notT; simp
@[simp] theorem wp_truT {f : Mo Pl} : wp (truT f) ρ Qb R = wp f ρ (fun p ρ1 => wp (look p) ρ1 (fun d ρ2 => wp (Mo.lift (dTru d)) ρ2 Qb R) R) R := by unfold truT; simp
@[simp] theorem wp_ifV : wp (ifV c f g) ρ Qd R = wp c ρ (fun b ρ' => if b = true then wp f ρ' Qd R else wp g ρ' Qd R) R := by unfold ifV; simp
@[simp] theorem wp_noT : wp noT ρ Qb R = Qb true ρ := by unfold wp; rfl
@[simp] theorem wp_isiM {ts : List Ty} {f : Mo Pl} : wp (isiM ts f) ρ Qd R = wp f ρ (fun p ρ1 => wp (look p) ρ1 (fun d ρ2 => wp (Mo.lift (dIsi ts d)) ρ2 Qd R) R) R := by unfold isiM; simp
@[simp] theorem wp_consD {fs : Mo (List D)} {Q : List D → List Sl → Prop} : wp (consD f fs) ρ Q R = wp f ρ (fun d ρ1 => wp fs ρ1 (fun ds ρ2 => Q (d :: ds) ρ2) R) R := by unfold consD; simp
@[simp] theorem wp_consP {f : Mo Pl} {fs : Mo (List Pl)} {Q : List Pl → List Sl → Prop} : wp (consP f fs) ρ Q R = wp f ρ (fun d ρ1 => wp fs ρ1 (fun ds ρ2 => Q (d :: ds) ρ2) R) R := by unfold consP; simp
@[simp] theorem wp_looks0 {Q : List D → List Sl → Prop} : wp (looks []) ρ Q R = Q [] ρ := by unfold wp; rfl
@[simp] theorem wp_looks1 {p : Pl} {ps : List Pl} {Q : List D → List Sl → Prop} : wp (looks (p :: ps)) ρ Q R = wp (look p) ρ (fun d ρ1 => wp (looks ps) ρ1 (fun ds ρ2 => Q (d :: ds) ρ2) R) R := by rw [show looks (p :: ps) = (look p >>= fun d => looks ps >>= fun r => pure (d :: r)) from rfl]; simp
@[simp] theorem wp_blt {h : List D → Option D} {fs : Mo (List Pl)} : wp (bltM h fs) ρ Qd R = wp fs ρ (fun ps ρ1 => wp (looks ps) ρ1 (fun ds ρ2 => wp (Mo.lift (h ds)) ρ2 Qd R) R) R := by unfold bltM; simp
@[simp] theorem wp_lim {xs : List α} {Q : Unit → List Sl → Prop} : wp (Mo.lift (lim xs)) ρ Q R = (xs.length ≤ sizeLine ∧ Q () ρ) := by
  unfold lim
  by_cases h : xs.length ≤ sizeLine
  · rw [if_pos h]; simp [h]
  · rw [if_neg h]; simp [h]
@[simp] theorem wp_tupM {g : Mo (List D)} : wp (tupM g) ρ Qd R = wp g ρ (fun ds ρ' => ds.length ≤ sizeLine ∧ Qd (.tup ds) ρ') R := by unfold tupM; simp
@[simp] theorem wp_lstM {g : Mo (List D)} : wp (lstM g) ρ Qd R = wp g ρ (fun ds ρ' => ds.length ≤ sizeLine ∧ Qd (.lst ds) ρ') R := by unfold lstM; simp
@[simp] theorem wp_items {Q : List D → List Sl → Prop} : wp (itemsM f) ρ Q R = wp f ρ (fun d ρ' => wp (Mo.lift (dItems d)) ρ' Q R) R := by unfold itemsM; simp
@[simp] theorem wp_rng1 {g : Mo (List D)} {Q : List D → List Sl → Prop} : wp (rngM1 g) ρ Q R = wp g ρ (fun ds ρ' => wp (Mo.lift (dRng1 ds)) ρ' Q R) R := by unfold rngM1; simp
@[simp] theorem wp_rng2 {g : Mo (List D)} {Q : List D → List Sl → Prop} : wp (rngM2 g) ρ Q R = wp g ρ (fun ds ρ' => wp (Mo.lift (dRng2 ds)) ρ' Q R) R := by unfold rngM2; simp
def onS (d : D) (p : Str → Prop) : Prop := match d with
  | .str x => p x
  | _ => False
def onI (d : D) (p : Int → Prop) : Prop := match d with
  | .int x => p x
  | _ => False
@[simp] theorem onS_str {x : Str} {p : Str → Prop} : onS (.str x) p = p x := rfl
@[simp] theorem onI_int {x : Int} {p : Int → Prop} : onI (.int x) p = p x := rfl
@[simp] theorem wp_joinM {g : Mo Pl} : wp (joinM f g) ρ Qd R = wp f ρ (fun d ρ1 => onS d fun x => wp g ρ1 (fun p ρ2 => wp (look p) ρ2 (fun e ρ3 => wp (Mo.lift (dJoin (.str x) e)) ρ3 Qd R) R) R) R := by
  unfold joinM
  rw [wp_bind]
  congr 1
  funext d ρ'
  cases d with
  | str x => show wp (g >>= fun p => look p >>= fun e => Mo.lift (dJoin (.str x) e)) ρ' Qd R = _; simp
  | _ => first | rfl | (unfold wp; rfl)
@[simp] theorem wp_partM {Q : Option Int → List Sl → Prop} : wp (partM f) ρ Q R = wp f ρ (fun d ρ' => onI d fun n => Q (some n) ρ') R := by
  unfold partM
  rw [wp_bind]
  congr 1
  funext d ρ'
  cases d <;> (first | rfl | (unfold wp; rfl))
@[simp] theorem wp_slM {f : Mo Pl} {lo hi : Mo (Option Int)} : wp (slM f lo hi) ρ Qd R = wp f ρ (fun p ρ1 => wp lo ρ1 (fun i ρ2 => wp hi ρ2 (fun j ρ3 => wp (look p) ρ3 (fun d ρ4 => wp (Mo.lift (dSl d i j)) ρ4 Qd R) R) R) R) R := by unfold slM; simp
@[simp] theorem wp_negM : wp (negM f) ρ Qd R = wp f ρ (fun d ρ1 => wp (Mo.lift (dNeg d)) ρ1 Qd R) R := by unfold negM; simp
@[simp] theorem wp_revP {f : Mo Pl} : wp (revP f) ρ Qd R = wp f ρ (fun p ρ1 => wp (look p) ρ1 (fun d ρ2 => wp (Mo.lift (dRev d)) ρ2 Qd R) R) R := by unfold revP; simp
/-! calls -/
@[irreducible] def onF (fo : Fo) (q : D → Prop) (r : Ex → Prop) : Prop := match fo with
  | .ok x _ => q x
  | .ex e _ => r e
  | .no => False
@[irreducible] def onU (fo : Fo) (q : D → D → Prop) (r : Ex → D → Prop) : Prop := match fo with
  | .ok x (some u) => q x u
  | .ex e (some u) => r e u
  | _ => False
@[simp] theorem wp_callM {F : FF} {g : Mo (List D)} : wp (callM F g) ρ Qd R = wp g ρ (fun ds ρ' => onF (F none ds) (fun x => Qd x ρ') (fun e => R e ρ')) R := by
  unfold callM
  rw [wp_bind]
  congr 1
  funext ds ρ'
  cases F none ds <;> (first | rfl | (unfold onF wp; rfl) | (unfold onU wp; rfl) | (unfold onF; rfl) | (unfold onU; rfl))
@[simp] theorem wpR_ioR_io {F : FF} {ds : List D} : wpR (ioR i F ds ρ (some (.io d))) Qd R = onU (F (some d) ds) (fun x u => Qd x (ρ.set i (.io u))) (fun e u => R e (ρ.set i (.io u))) := by
  unfold ioR
  dsimp only
  cases F (some d) ds with
  | no => first | rfl | (unfold onU; rfl) | (unfold onU wp; rfl)
  | ok x u => cases u <;> (first | rfl | (unfold onF wp; rfl) | (unfold onU wp; rfl) | (unfold onF; rfl) | (unfold onU; rfl))
  | ex x u => cases u <;> (first | rfl | (unfold onF wp; rfl) | (unfold onU wp; rfl) | (unfold onF; rfl) | (unfold onU; rfl))
@[simp] theorem wpR_ioR_own {F : FF} {ds : List D} : wpR (ioR i F ds ρ (some (.own d))) Qd R = onU (F (some d) ds) (fun x u => Qd x (ρ.set i (.own u))) (fun e u => R e (ρ.set i (.own u))) := by
  unfold ioR
  dsimp only
  cases F (some d) ds with
  | no => first | rfl | (unfold onU; rfl) | (unfold onU wp; rfl)
  | ok x u => cases u <;> (first | rfl | (unfold onF wp; rfl) | (unfold onU wp; rfl) | (unfold onF; rfl) | (unfold onU; rfl))
  | ex x u => cases u <;> (first | rfl | (unfold onF wp; rfl) | (unfold onU wp; rfl) | (unfold onF; rfl) | (unfold onU; rfl))
@[simp] theorem wp_callIo {F : FF} {g : Mo (List D)} : wp (callIo i F g) ρ Qd R = wp (slotM i) ρ (fun _ ρ1 => wp g ρ1 (fun ds ρ2 => wpR (ioR i F ds ρ2 ρ2[i]?) Qd R) R) R := by
  unfold callIo
  rw [wp_bind]
  congr 1
  funext _ ρ1
  have h := wp_bind (ρ := ρ1) (Q2 := Qd) (R := R) (m := g) (k := fun ds => (fun ρ => ioR i F ds ρ ρ[i]? : Mo D))
  unfold wp at h ⊢
  exact h
theorem onF_run {new : Bool} {np N : Nat} {m : Mo Out} {ds : List D} {q : D → Prop} {r : Ex → Prop} (hl : ds.length = np := by rfl)
    (h : wp m (frame N none ds) (fun o _ => match o with
      | .nx => new = false ∧ q .non
      | .rt x => new = false ∧ q x
      | .rn x => new = true ∧ q x
      | _ => False) (fun e _ => r e)) : onF (runF new false np N m none ds) q r := by
  unfold runF
  first | unfold onF | unfold onU
  rw [if_pos ⟨rfl, hl⟩]
  unfold wp wpR at h
  cases hm : m (frame N none ds) with
  | no => rw [hm] at h; exact h
  | ex e ρ => rw [hm] at h; exact h
  | ok o ρ =>
    rw [hm] at h
    cases o with
    | nx => obtain ⟨rfl, h⟩ := h; exact h
    | rt x => obtain ⟨rfl, h⟩ := h; exact h
    | rn x => obtain ⟨rfl, h⟩ := h; exact h
    | _ => exact h.elim
theorem onU_run {new : Bool} {np N : Nat} {m : Mo Out} {ds : List D} {q : D → D → Prop} {r : Ex → D → Prop} (hl : ds.length = np := by rfl)
    (h : wp m (frame N (some d) ds) (fun o ρ => ∃ u, ρ[0]? = some (.io u) ∧ match o with
      | .nx => new = false ∧ q .non u
      | .rt x => new = false ∧ q x u
      | .rn x => new = true ∧ q x u
      | _ => False) (fun e ρ => ∃ u, ρ[0]? = some (.io u) ∧ r e u)) : onU (runF new true np N m (some d) ds) q r := by
  unfold runF
  first | unfold onF | unfold onU
  rw [if_pos ⟨rfl, hl⟩]
  unfold wp wpR at h
  have io : ∀ {ρ : List Sl} {u : D}, ρ[0]? = some (.io u) → ioOf true ρ = some (some u) := fun {ρ u} e => by
    unfold ioOf
    rw [if_pos rfl, e]
    first | rfl | (unfold wp; rfl)
  cases hm : m (frame N (some d) ds) with
  | no => rw [hm] at h; exact h
  | ex e ρ =>
    rw [hm] at h
    obtain ⟨u, eu, h⟩ := h
    unfold outF
    dsimp only
    rw [io eu]
    exact h
  | ok o ρ =>
    rw [hm] at h
    obtain ⟨u, eu, h⟩ := h
    unfold outF
    dsimp only
    rw [io eu]
    cases o with
    | nx => obtain ⟨rfl, h⟩ := h; exact h
    | rt x => obtain ⟨rfl, h⟩ := h; exact h
    | rn x => obtain ⟨rfl, h⟩ := h; exact h
    | _ => exact h.elim
/-! lists that change -/
def onP (o : Option (D × List D)) (q : D → List D → Prop) : Prop := match o with
  | some (x, ds) => q x ds
  | none => False
@[simp] theorem onP_some {x : D} {ds : List D} {q : D → List D → Prop} : onP (some (x, ds)) q = q x ds := rfl
@[simp] theorem onP_none {q : D → List D → Prop} : onP none q = False := rfl
@[simp] theorem mutR_io {h : List D → Option (D × List D)} {ds : List D} : wpR (mutR i h ρ (some (.io (.lst ds)))) Qd R = onP (h ds) (fun x es => Qd x (ρ.set i (.io (.lst es)))) := by
  unfold mutR
  dsimp only
  cases h ds with
  | none => first | rfl | (unfold wp; rfl)
  | some p => first | rfl | (unfold wp; rfl)
@[simp] theorem mutR_own {h : List D → Option (D × List D)} {ds : List D} : wpR (mutR i h ρ (some (.own (.lst ds)))) Qd R = onP (h ds) (fun x es => Qd x (ρ.set i (.own (.lst es)))) := by
  unfold mutR
  dsimp only
  cases h ds with
  | none => first | rfl | (unfold wp; rfl)
  | some p => first | rfl | (unfold wp; rfl)
@[simp] theorem wp_mutM {h : List D → Option (D × List D)} : wp (mutM i h) ρ Qd R = wpR (mutR i h ρ ρ[i]?) Qd R := by unfold wp; rfl
@[simp] theorem lsR_own {ds : List D} : lsR ρ (some (.own (.lst ds))) = .ok () ρ := rfl
@[simp] theorem lsR_io {ds : List D} : lsR ρ (some (.io (.lst ds))) = .ok () ρ := rfl
@[simp] theorem wp_lsM {Q : Unit → List Sl → Prop} : wp (lsM i) ρ Q R = wpR (lsR ρ ρ[i]?) Q R := by unfold wp; rfl
@[simp] theorem wp_appM : wp (appM i f) ρ Qd R = wp (lsM i) ρ (fun _ ρ1 => wp f ρ1 (fun d ρ2 => wp (mutM i (hApp d)) ρ2 Qd R) R) R := by unfold appM; simp
@[simp] theorem wp_popM : wp (popM i) ρ Qd R = wp (lsM i) ρ (fun _ ρ1 => wp (mutM i hPop) ρ1 Qd R) R := by unfold popM; simp
@[simp] theorem wp_popAtM : wp (popAtM i f) ρ Qd R = wp (lsM i) ρ (fun _ ρ1 => wp f ρ1 (fun d ρ2 => onI d fun j => wp (mutM i (hPopAt j)) ρ2 Qd R) R) R := by
  unfold popAtM
  rw [wp_bind]
  congr 1
  funext _ ρ1
  rw [wp_bind]
  congr 1
  funext d ρ2
  cases d <;> (first | rfl | (unfold wp; rfl))
@[simp] theorem wp_putIx : wp (putIxM i f g) ρ Qo R = wp g ρ (fun d ρ1 => wp (slotM i) ρ1 (fun _ ρ2 => wp f ρ2 (fun n ρ3 => onI n fun n => wp (mutM i (hSet n d)) ρ3 (fun _ ρ4 => Qo .nx ρ4) R) R) R) R := by
  unfold putIxM
  rw [wp_bind]
  congr 1
  funext d ρ1
  rw [wp_bind]
  congr 1
  funext _ ρ2
  rw [wp_bind]
  congr 1
  funext n ρ3
  cases n with
  | int n => show wp (mutM i (hSet n d) >>= fun _ => pure .nx) ρ3 Qo R = _; rw [wp_bind]; first | rfl | (unfold wp; rfl)
  | _ => first | rfl | (unfold wp; rfl)
/-! statements -/
@[simp] theorem wp_setM : wp (setM i f) ρ Qo R = wp f ρ (fun d ρ' => Qo .nx (ρ'.set i (.dat d))) R := by unfold setM; rw [wp_bind]; first | rfl | (unfold wp; rfl)
@[simp] theorem wp_setF : wp (setF i f) ρ Qo R = wp f ρ (fun d ρ' => Qo .nx (ρ'.set i (.own d))) R := by unfold setF; rw [wp_bind]; first | rfl | (unfold wp; rfl)
@[simp] theorem wp_retM : wp (retM f) ρ Qo R = wp f ρ (fun d ρ' => Qo (.rt d) ρ') R := by unfold retM; simp
@[simp] theorem wp_retF : wp (retF f) ρ Qo R = wp f ρ (fun d ρ' => Qo (.rn d) ρ') R := by unfold retF; simp
@[simp] theorem wp_dropM {m : Mo α} : wp (dropM m) ρ Qo R = wp m ρ (fun _ ρ' => Qo .nx ρ') R := by unfold dropM; simp
@[simp] theorem wp_ifM : wp (ifM c a b) ρ Qo R = wp c ρ (fun t ρ' => if t = true then wp a ρ' Qo R else wp b ρ' Qo R) R := by unfold ifM; simp
@[simp] theorem moveR_own {d : D} : moveR i ρ (some (.own d)) = .ok (.rn d) (ρ.set i .no) := rfl
@[simp] theorem wp_moveM : wp (moveM i) ρ Qo R = wpR (moveR i ρ ρ[i]?) Qo R := by unfold wp; rfl
@[simp] theorem wp_putP {b1 b2 : Bool} : wp (putP i j b1 b2 f g) ρ Qo R = wp f ρ (fun x ρ1 => wp g ρ1 (fun y ρ2 => Qo .nx ((ρ2.set i (slK b1 x)).set j (slK b2 y))) R) R := by
  unfold putP
  simp only [wp_bind]
  first | rfl | (unfold wp; rfl)
@[simp] theorem slK_t : slK true d = .own d := rfl
@[simp] theorem slK_f : slK false d = .dat d := rfl
/-- what follows a statement -/
def thnO (Q : Out → List Sl → Prop) (N : List Sl → Prop) : Out → List Sl → Prop
  | .nx, ρ => N ρ
  | o, ρ => Q o ρ
@[simp] theorem thnO_nx {N : List Sl → Prop} : thnO Qo N .nx ρ = N ρ := rfl
@[simp] theorem thnO_rt {N : List Sl → Prop} : thnO Qo N (.rt d) ρ = Qo (.rt d) ρ := rfl
@[simp] theorem thnO_rn {N : List Sl → Prop} : thnO Qo N (.rn d) ρ = Qo (.rn d) ρ := rfl
@[simp] theorem thnO_bk {N : List Sl → Prop} : thnO Qo N .bk ρ = Qo .bk ρ := rfl
@[simp] theorem thnO_ct {N : List Sl → Prop} : thnO Qo N .ct ρ = Qo .ct ρ := rfl
@[simp] theorem wp_seqM : wp (seqM a b) ρ Qo R = wp a ρ (thnO Qo fun ρ' => wp b ρ' Qo R) R := by
  unfold seqM
  rw [wp_bind]
  congr 1
  funext o ρ'
  cases o <;> (first | rfl | (unfold wp; rfl))
@[simp] theorem wp_forM {src : Mo (List D)} {t : Tm} : wp (forM src t a) ρ Qo R = wp src ρ (fun ds ρ' => wp (forL t a ds) ρ' Qo R) R := by unfold forM; rw [wp_bind]
@[simp] theorem onO_nx {N : List Sl → Prop} : onO Qo N .nx ρ = N ρ := rfl
@[simp] theorem onO_ct {N : List Sl → Prop} : onO Qo N .ct ρ = N ρ := rfl
@[simp] theorem onO_bk {N : List Sl → Prop} : onO Qo N .bk ρ = Qo .nx ρ := rfl
@[simp] theorem onO_rt {N : List Sl → Prop} : onO Qo N (.rt d) ρ = Qo (.rt d) ρ := rfl
@[simp] theorem onO_rn {N : List Sl → Prop} : onO Qo N (.rn d) ρ = Qo (.rn d) ρ := rfl
/-! values -/
@[simp] theorem dLt_int {x y : Int} : dLt (.int x) (.int y) = some (.bl (decide (x < y))) := rfl
@[simp] theorem dLt_str {x y : Str} : dLt (.str x) (.str y) = some (.bl (decide (x.cps.toList < y.cps.toList))) := rfl
@[simp] theorem dLe_int {x y : Int} : dLe (.int x) (.int y) = some (.bl (decide (x ≤ y))) := rfl
@[simp] theorem dLe_str {x y : Str} : dLe (.str x) (.str y) = some (.bl (!decide (y.cps.toList < x.cps.toList))) := rfl
@[simp] theorem dGt_int {x y : Int} : dGt (.int x) (.int y) = some (.bl (decide (y < x))) := rfl
@[simp] theorem dGt_str {x y : Str} : dGt (.str x) (.str y) = some (.bl (decide (y.cps.toList < x.cps.toList))) := rfl
@[simp] theorem dEq_int {x y : Int} : dEq (.int x) (.int y) = some (.bl (decide (x = y))) := rfl
@[simp] theorem dEq_str {x y : Str} : dEq (.str x) (.str y) = some (.bl (decide (x = y))) := rfl
@[simp] theorem dNe_int {x y : Int} : dNe (.int x) (.int y) = some (.bl (!decide (x = y))) := rfl
@[simp] theorem dNe_str {x y : Str} : dNe (.str x) (.str y) = some (.bl (!decide (x = y))) := rfl
@[simp] theorem dGe_int {x y : Int} : dGe (.int x) (.int y) = some (.bl (decide (y ≤ x))) := rfl
@[simp] theorem dAdd_int {x y : Int} : dAdd (.int x) (.int y) = some (.int (x + y)) := rfl
@[simp] theorem dAdd_str {x y : Str} : dAdd (.str x) (.str y) = if x.length + y.length ≤ sizeLine then some (.str (x ++ y)) else none := rfl
@[simp] theorem dAdd_tup {x y : List D} : dAdd (.tup x) (.tup y) = if x.length + y.length ≤ sizeLine then some (.tup (x ++ y)) else none := rfl
@[simp] theorem dAdd_lst {x y : List D} : dAdd (.lst x) (.lst y) = if x.length + y.length ≤ sizeLine then some (.lst (x ++ y)) else none := rfl
@[simp] theorem dSub_int {x y : Int} : dSub (.int x) (.int y) = some (.int (x - y)) := rfl
@[simp] theorem dMul_int {x y : Int} : dMul (.int x) (.int y) = if CMulW x y then some (.int (x * y)) else none := rfl
@[simp] theorem dDiv_int {x y : Int} : dDiv (.int x) (.int y) = if CDivW x y then some (.int (x / y)) else none := rfl
@[simp] theorem dMod_int {x y : Int} : dMod (.int x) (.int y) = if 0 < y then some (.int (x % y)) else none := rfl
@[simp] theorem dPow_int {x y : Int} : dPow (.int x) (.int y) = if CPowW x y then some (.int (x ^ y.toNat)) else none := rfl
@[simp] theorem dNeg_int {x : Int} : dNeg (.int x) = some (.int (-x)) := rfl
@[simp] theorem dAbs_int {x : Int} : dAbs [.int x] = some (.int (if x < 0 then -x else x)) := rfl
@[simp] theorem dInt_int {x : Int} : dInt [.int x] = some (.int x) := rfl
@[simp] theorem dInt_bl {x : Bool} : dInt [.bl x] = some (.int (if x then 1 else 0)) := rfl
@[simp] theorem dMax_int {x y : Int} : dMax [.int x, .int y] = some (.int (if y > x then y else x)) := rfl
@[simp] theorem dMin_int {x y : Int} : dMin [.int x, .int y] = some (.int (if y < x then y else x)) := rfl
@[simp] theorem dLen_lst {ds : List D} : dLen [.lst ds] = some (.int ds.length) := rfl
@[simp] theorem dLen_tup {ds : List D} : dLen [.tup ds] = some (.int ds.length) := rfl
@[simp] theorem dLen_scr {ns : List Int} : dLen [.scr ns] = some (.int ns.length) := rfl
@[simp] theorem dLen_str {x : Str} : dLen [.str x] = if x.length ≤ sizeLine then some (.int x.length) else none := rfl
@[simp] theorem dIx_lst {ds : List D} {n : Int} : dIx (.lst ds) (.int n) = atI ds n := rfl
@[simp] theorem dIx_tup {ds : List D} {n : Int} : dIx (.tup ds) (.int n) = atI ds n := rfl
@[simp] theorem dIx_scr {ds : List Int} {n : Int} : dIx (.scr ds) (.int n) = (atI ds n).map .int := rfl
@[simp] theorem dIx_str {x : Str} {n : Int} : dIx (.str x) (.int n) = if x.length ≤ sizeLine then (atI x.cps.toList n).map fun c => .str ⟨#[c]⟩ else none := rfl
@[simp] theorem atI_0 {α : Type} {x : α} {xs : List α} : atI (x :: xs) 0 = some x := atI_nat (j := 0) rfl
@[simp] theorem atI_1 {α : Type} {x y : α} {xs : List α} : atI (x :: y :: xs) 1 = some y := atI_nat (j := 1) rfl
@[simp] theorem atI_2 {α : Type} {x y z : α} {xs : List α} : atI (x :: y :: z :: xs) 2 = some z := atI_nat (j := 2) rfl
@[simp] theorem hSet_0 {x d : D} {xs : List D} : hSet 0 d (x :: xs) = some (.non, d :: xs) := by
  have e : ixN (x :: xs).length 0 = some 0 := by
    unfold ixN
    simp
  unfold hSet
  rw [e]
  first | rfl | (unfold wp; rfl)
@[simp] theorem hSet_1 {x y d : D} {xs : List D} : hSet 1 d (x :: y :: xs) = some (.non, x :: d :: xs) := by
  have e : ixN (x :: y :: xs).length 1 = some 1 := by
    unfold ixN
    rw [if_pos (by decide), if_pos (by simp only [List.length_cons]; omega)]
    first | rfl | (unfold wp; rfl)
  unfold hSet
  rw [e]
  first | rfl | (unfold wp; rfl)
@[simp] theorem hSet_2 {x y z d : D} {xs : List D} : hSet 2 d (x :: y :: z :: xs) = some (.non, x :: y :: d :: xs) := by
  have e : ixN (x :: y :: z :: xs).length 2 = some 2 := by
    unfold ixN
    rw [if_pos (by decide), if_pos (by simp only [List.length_cons]; omega)]
    first | rfl | (unfold wp; rfl)
  unfold hSet
  rw [e]
  first | rfl | (unfold wp; rfl)
@[simp] theorem hApp_eq {ds : List D} : hApp d ds = if ds.length < sizeLine then some (.non, ds ++ [d]) else none := rfl
@[simp] theorem onP_ite {p : Prop} [Decidable p] {x y : Option (D × List D)} {q : D → List D → Prop} : onP (if p then x else y) q = if p then onP x q else onP y q := by split <;> (first | rfl | (unfold wp; rfl))
@[simp] theorem dItems_lst {ds : List D} : dItems (.lst ds) = some ds := rfl
@[simp] theorem dItems_tup {ds : List D} : dItems (.tup ds) = some ds := rfl
@[simp] theorem dItems_str {x : Str} : dItems (.str x) = some (signs x) := rfl
@[simp] theorem dRng1_int {n : Int} : dRng1 [.int n] = if -(2 ^ 62) ≤ n ∧ n < 2 ^ 62 then some (upTo 0 n.toNat) else none := rfl
@[simp] theorem dRng2_int {m n : Int} : dRng2 [.int m, .int n] = if -(2 ^ 62) ≤ m ∧ m < 2 ^ 62 ∧ -(2 ^ 62) ≤ n ∧ n < 2 ^ 62 then some (upTo m (n - m).toNat) else none := rfl
@[simp] theorem dSl_lst {ds : List D} {lo hi : Option Int} : dSl (.lst ds) lo hi = some (.lst (cutD ds lo hi)) := rfl
@[simp] theorem dSl_tup {ds : List D} {lo hi : Option Int} : dSl (.tup ds) lo hi = some (.tup (cutD ds lo hi)) := rfl
@[simp] theorem dRev_lst {ds : List D} : dRev (.lst ds) = some (.lst ds.reverse) := rfl
@[simp] theorem dRev_tup {ds : List D} : dRev (.tup ds) = some (.tup ds.reverse) := rfl
@[simp] theorem dList_lst {ds : List D} : dList [.lst ds] = some (.lst ds) := rfl
@[simp] theorem dList_tup {ds : List D} : dList [.tup ds] = some (.lst ds) := rfl
@[simp] theorem dTuple_lst {ds : List D} : dTuple [.lst ds] = some (.tup ds) := rfl
@[simp] theorem dTuple_tup {ds : List D} : dTuple [.tup ds] = some (.tup ds) := rfl
@[simp] theorem wp_map {f : α → β} {o : Option α} {Q : β → List Sl → Prop} : wp (Mo.lift (o.map f)) ρ Q R = wp (Mo.lift o) ρ (fun x ρ' => Q (f x) ρ') R := by cases o <;> (first | rfl | (unfold wp; rfl))
end
end VS

namespace VS
open PySem PySem.Spec PyProof.Rows L2
theorem nlog2_lt {x k : Nat} (h : x < 2 ^ k) (hk : 0 < k) : x.log2 < k := by
  by_cases h1 : x = 0
  · rw [h1]
    have : Nat.log2 0 = 0 := by decide
    omega
  · exact (Nat.log2_lt h1).mpr h
theorem log2_lt {x : Int} {k : Nat} (h0 : 0 ≤ x) (h : x < 2 ^ k) (hk : 0 < k) : x.natAbs.log2 < k := by
  refine nlog2_lt ?_ hk
  have h2 : ((x.natAbs : Nat) : Int) < 2 ^ k := by omega
  exact_mod_cast h2
theorem cmul {x y : Int} (x0 : 0 ≤ x) (x1 : x < 2 ^ 2000) (y0 : 0 ≤ y) (y1 : y < 2 ^ 2000) : CMulW x y := by
  have h1 := log2_lt x0 x1 (by decide)
  have h2 := log2_lt y0 y1 (by decide)
  unfold CMulW
  omega
theorem big_lt {x : Int} {a b : Nat} (h : x < 2 ^ a) (hab : a ≤ b) : x < 2 ^ b := by
  have : (2 : Int) ^ a ≤ 2 ^ b := by exact_mod_cast Nat.pow_le_pow_right (by decide) hab
  omega
theorem cmulS {x y : Int} (x0 : 0 ≤ x) (x1 : x < 2 ^ 62) (y0 : 0 ≤ y) (y1 : y < 2 ^ 62) : CMulW x y := cmul x0 (big_lt x1 (by decide)) y0 (big_lt y1 (by decide))
theorem cdivS {x y : Int} (y0 : 0 < y) (y1 : y < 2 ^ 62) : CDivW x y := ⟨y0, Nat.lt_trans (log2_lt (Int.le_of_lt y0) y1 (by decide)) (by decide)⟩
/-! ### the urn -/
def Urn (n : Nat) (d : D) : Prop := ∃ a s c : Int, d = .lst [.int a, .int s, .int c] ∧ 0 ≤ a ∧ 0 ≤ s ∧ s < 2 ^ 62 ∧ 0 ≤ c ∧ c ≤ n
theorem Urn.mono {m n : Nat} {d : D} (h : Urn m d) (l : m ≤ n) : Urn n d := by
  obtain ⟨a, s, c, e, h1, h2, h3, h4, h5⟩ := h
  exact ⟨a, s, c, e, h1, h2, h3, h4, by omega⟩
end VS
namespace VS
open PySem PySem.Spec PyProof.Rows L2
/-! ### texts by their signs -/
def tx (l : List Nat) : Str := ⟨l.toArray⟩
theorem tx_cps {l : List Nat} : (tx l).cps.toList = l := by unfold tx; simp
theorem tx_len {l : List Nat} : (tx l).length = l.length := by unfold tx Str.length; simp
theorem tx_inj {l m : List Nat} (h : tx l = tx m) : l = m := by
  have := congrArg (fun s : Str => s.cps.toList) h
  simpa [tx_cps] using this
theorem tx_cat (l m : List Nat) : tx l ++ tx m = tx (l ++ m) := by
  show Str.append (tx l) (tx m) = _
  unfold Str.append tx
  simp
theorem tx_of {x : Str} : x = tx x.cps.toList := by unfold tx; simp
theorem joinL_nil : ∀ ys : List (List Nat), TL.joinL [] ys = ys.flatten
  | [] => rfl
  | [p] => by simp [TL.joinL]
  | p :: q :: r => by
    have := joinL_nil (q :: r)
    rw [TL.joinL, this]
    simp
theorem ext_cps {x y : Str} (h : x.cps.toList = y.cps.toList) : x = y := by rw [tx_of (x := x), tx_of (x := y), h]
theorem join_tx (ys : List (List Nat)) : Txt.join (tx []) (ys.map tx) = tx ys.flatten := by
  have e := TL.tl_join (tx []) (ys.map tx)
  have e1 : TL.tl (tx []) = [] := tx_cps
  have e2 : (ys.map tx).map TL.tl = ys := by
    rw [List.map_map]
    have : (TL.tl ∘ tx) = id := by funext l; exact tx_cps
    rw [this, List.map_id]
  rw [e1, e2, joinL_nil] at e
  refine ext_cps ?_
  rw [tx_cps, ← e]
  exact congrArg TL.tl (TL.join_eq (tx []) (ys.map tx))
theorem txts_map (xs : List Str) : txts (xs.map D.str) = some xs := by
  induction xs with
  | nil => rfl
  | cons x xs ih => show (txts (xs.map D.str)).map (x :: ·) = _; rw [ih]; rfl
/-- one sign each -/
def sgs (x : List Nat) : List D := x.map fun c => D.str (tx [c])
theorem sgs_len {x : List Nat} : (sgs x).length = x.length := by unfold sgs; simp
theorem sgs_snoc {x : List Nat} {c : Nat} : sgs x ++ [.str (tx [c])] = sgs (x ++ [c]) := by unfold sgs; simp
theorem flat1 (x : List Nat) : (x.map fun c => [c]).flatten = x := by
  induction x with
  | nil => rfl
  | cons c x ih => rw [List.map_cons, List.flatten_cons, ih]; rfl
theorem dJoin_sgs {x : List Nat} {e : Str} (he : e = tx []) (h : x.length ≤ 16777216) : dJoin (.str e) (.lst (sgs x)) = some (.str (tx x)) := by
  subst he
  have e1 : txts (sgs x) = some ((x.map fun c => [c]).map tx) := by
    have : sgs x = ((x.map fun c => [c]).map tx).map D.str := by
      unfold sgs
      rw [List.map_map, List.map_map]
      rfl
    rw [this]
    exact txts_map _
  have e2 : (((x.map fun c => [c]).map tx).map (·.length)).sum = x.length := by
    induction x with
    | nil => rfl
    | cons c x ih =>
      simp only [List.map_cons, List.sum_cons, List.length_cons] at ih ⊢
      rw [ih (by simp only [List.length_cons] at h; omega) (by
        have : sgs x = ((x.map fun c => [c]).map tx).map D.str := by
          unfold sgs
          rw [List.map_map, List.map_map]
          rfl
        rw [this]
        exact txts_map _)]
      have : (tx [c]).length = 1 := tx_len
      omega
  unfold dJoin
  dsimp only
  rw [e1]
  dsimp only
  rw [if_pos (by rw [e2, tx_len]; simp; exact h), join_tx, flat1]
theorem signs_tx {x : List Nat} : signs (tx x) = sgs x := by unfold signs sgs; rw [tx_cps]; rfl
end VS
namespace VS
open PySem PySem.Spec PyProof.Rows L2
/-! ### values that can be shown -/
def Gd (m j : Nat) (d : D) : Prop := ∃ p, pr d = some p ∧ p.leavesShort 50 = true ∧ p.showable = true ∧ p.weight ≤ m ∧ p.depth ≤ j
theorem Gd.mono {m j m' j' : Nat} {d : D} (h : Gd m j d) (hm : m ≤ m') (hj : j ≤ j') : Gd m' j' d := by
  obtain ⟨p, e, h1, h2, h3, h4⟩ := h
  exact ⟨p, e, h1, h2, by omega, by omega⟩
theorem gd_non : Gd 0 0 .non := ⟨_, by unfold pr; rfl, by unfold PyData.leavesShort; rfl, by unfold PyData.showable; rfl, by unfold PyData.weight; omega, by unfold PyData.depth; omega⟩
theorem gd_bl {b : Bool} : Gd 0 0 (.bl b) := ⟨_, by unfold pr; rfl, by unfold PyData.leavesShort; rfl, by unfold PyData.showable; rfl, by unfold PyData.weight; omega, by unfold PyData.depth; omega⟩
theorem gd_int {i : Int} (h : i.natAbs < 10 ^ 40) : Gd 140 0 (.int i) := by
  have hl : i.natAbs.log2 < 134 := nlog2_lt (Nat.lt_trans h (by decide)) (by decide)
  refine ⟨.int i, by unfold pr; rfl, ?_, ?_, ?_, by unfold PyData.depth; omega⟩
  · have h1 : (PyData.shown (.int i)).length ≤ 50 := by
      have z := int_text_length_le10 (k := 40) (by decide) h
      have e : (PyData.shown (.int i)).length = (toString i).length := by
        show (Str.ofString (toString i)).length = _
        exact PySem.ofString_length _
      omega
    unfold PyData.leavesShort
    exact decide_eq_true h1
  · unfold PyData.showable
    exact decide_eq_true (by omega)
  · unfold PyData.weight
    split <;> omega
theorem gd_str {x : List Nat} {m : Nat} (hl : x.length ≤ m) (hc : ∀ c ∈ x, c < 16 ^ 8) : Gd m 0 (.str (tx x)) := by
  refine ⟨.str (tx x), by unfold pr; rfl, ?_, by unfold PyData.showable; rfl, ?_, by unfold PyData.depth; omega⟩
  · unfold PyData.leavesShort
    rw [tx_cps, List.all_eq_true]
    exact fun c h => decide_eq_true (hc c h)
  · unfold PyData.weight
    have : (tx x).cps.size = x.length := tx_len
    omega
theorem gd_all {m j : Nat} : ∀ {ds : List D}, (∀ x ∈ ds, Gd m j x) → ∃ ps, prAll ds = some ps ∧ PyData.leavesShortAll 50 ps = true ∧ PyData.showableAll ps = true ∧ PyData.weightAll ps ≤ ds.length * (m + 1) ∧ PyData.depthAll ps ≤ j
  | [], _ => ⟨[], by unfold prAll; rfl, by unfold PyData.leavesShortAll; rfl, by unfold PyData.showableAll; rfl, by unfold PyData.weightAll; omega, by unfold PyData.depthAll; omega⟩
  | d :: ds, h => by
    obtain ⟨p, e, h1, h2, h3, h4⟩ := h d List.mem_cons_self
    obtain ⟨ps, e', g1, g2, g3, g4⟩ := gd_all (ds := ds) fun x hx => h x (List.mem_cons_of_mem _ hx)
    refine ⟨p :: ps, by unfold prAll; rw [e, e'], ?_, ?_, ?_, ?_⟩
    · unfold PyData.leavesShortAll; rw [h1, g1]; rfl
    · unfold PyData.showableAll; rw [h2, g2]; rfl
    · unfold PyData.weightAll
      have : (d :: ds).length * (m + 1) = ds.length * (m + 1) + (m + 1) := by rw [List.length_cons, Nat.add_mul]; omega
      omega
    · unfold PyData.depthAll; omega
theorem gd_tup {m j l : Nat} {ds : List D} (h : ∀ x ∈ ds, Gd m j x) (hl : ds.length ≤ l) : Gd (l * (m + 1)) (j + 1) (.tup ds) := by
  obtain ⟨ps, e, g1, g2, g3, g4⟩ := gd_all h
  refine ⟨.tuple ps, by unfold pr; rw [e]; rfl, by unfold PyData.leavesShort; exact g1, by unfold PyData.showable; exact g2, ?_, by unfold PyData.depth; omega⟩
  unfold PyData.weight
  exact Nat.le_trans g3 (Nat.mul_le_mul_right _ hl)
theorem gd_lst {m j l : Nat} {ds : List D} (h : ∀ x ∈ ds, Gd m j x) (hl : ds.length ≤ l) : Gd (l * (m + 1)) (j + 1) (.lst ds) := by
  obtain ⟨ps, e, g1, g2, g3, g4⟩ := gd_all h
  refine ⟨.list ps, by unfold pr; rw [e]; rfl, by unfold PyData.leavesShort; exact g1, by unfold PyData.showable; exact g2, ?_, by unfold PyData.depth; omega⟩
  unfold PyData.weight
  exact Nat.le_trans g3 (Nat.mul_le_mul_right _ hl)
theorem gd_dnil : Gd 0 1 (.dct []) := ⟨.dict [], by unfold pr prKv; rfl, by unfold PyData.leavesShort PyData.leavesShortKv; rfl, by unfold PyData.showable PyData.showableKv; rfl, by unfold PyData.weight PyData.weightKv; omega, by unfold PyData.depth PyData.depthKv; omega⟩
theorem gd_repr {m j : Nat} {d : D} (h : Gd m j d) (hm : m ≤ 300000) (hj : j ≤ 60) : ∃ s, dRepr [d] = some (.str s) := by
  obtain ⟨p, e, h1, h2, h3, h4⟩ := h
  have z := PyData.shown_le 50 (by decide) p h1
  have sz : 15700000 ≤ sizeLine := by decide
  refine ⟨p.shown, ?_⟩
  unfold dRepr
  dsimp only
  rw [e]
  dsimp only
  rw [if_pos ⟨h2, by omega, by omega⟩]
/-- plain values -/
theorem gd_ty {m j : Nat} {d : D} (h : Gd m j d) : ∃ t, dTy d = some t := by
  obtain ⟨p, e, _⟩ := h
  cases d with
  | obj _ _ => unfold pr at e; cases e
  | kls _ => unfold pr at e; cases e
  | err _ => unfold pr at e; cases e
  | exn _ => unfold pr at e; cases e
  | exc _ _ => unfold pr at e; cases e
  | dtk _ => unfold pr at e; cases e
  | ktu _ => unfold pr at e; cases e
  | _ => exact ⟨_, rfl⟩
theorem gd_items {m j : Nat} {ds : List D} (h : Gd m j (.tup ds)) : ∀ x ∈ ds, Gd m j x := by
  obtain ⟨p, e, h1, h2, h3, h4⟩ := h
  unfold pr at e
  cases ep : prAll ds with
  | none => rw [ep] at e; cases e
  | some ps =>
    rw [ep] at e; cases e
    unfold PyData.leavesShort at h1
    unfold PyData.showable at h2
    unfold PyData.weight at h3
    unfold PyData.depth at h4
    have h4' : PyData.depthAll ps ≤ j := by omega
    clear h4
    induction ds generalizing ps with
    | nil => intro x hx; cases hx
    | cons d ds ih =>
      unfold prAll at ep
      cases e1 : pr d with
      | none => rw [e1] at ep; cases ep
      | some p =>
        cases e2 : prAll ds with
        | none => rw [e1, e2] at ep; cases ep
        | some ps' =>
          rw [e1, e2] at ep; cases ep
          unfold PyData.leavesShortAll at h1
          unfold PyData.showableAll at h2
          unfold PyData.weightAll at h3
          unfold PyData.depthAll at h4'
          rw [Bool.and_eq_true] at h1 h2
          intro x hx
          rcases List.mem_cons.mp hx with rfl | hx
          · exact ⟨p, e1, h1.1, h2.1, by omega, by omega⟩
          · exact ih ps' e2 h1.2 h2.2 (by omega) (by omega) x hx
theorem gd_strlen {m j : Nat} {x : Str} (h : Gd m j (.str x)) : x.length ≤ m := by
  obtain ⟨p, e, _, _, h3, _⟩ := h
  unfold pr at e
  cases e
  unfold PyData.weight at h3
  exact h3
end VS
namespace VS
open PySem PySem.Spec PyProof.Rows L2
theorem wp_seq {a b : Mo Out} {ρ : List Sl} {Q : Out → List Sl → Prop} {R : Ex → List Sl → Prop} (P : List Sl → Prop) (h1 : wp a ρ (thnO Q P) R) (h2 : ∀ ρ', P ρ' → wp b ρ' Q R) : wp (seqM a b) ρ Q R := by
  rw [wp_seqM]
  refine wp_mono h1 fun o ρ' h => ?_
  cases o with
  | nx => exact h2 ρ' h
  | bk => exact h
  | ct => exact h
  | rt _ => exact h
  | rn _ => exact h
theorem run_eq {np N : Nat} {m : Mo Out} {ds : List D} {x : D} (h : onF (runF false false np N m none ds) (fun y => y = x) (fun _ => False)) : runF false false np N m none ds = .ok x none := by
  unfold runF at h ⊢
  by_cases hc : (none : Option D).isSome = false ∧ ds.length = np
  · rw [if_pos hc] at h ⊢
    unfold onF outF ioOf at h
    unfold outF ioOf
    cases hm : m (frame N none ds) with
    | no => rw [hm] at h; exact h.elim
    | ex e ρ => rw [hm] at h; exact h.elim
    | ok o ρ =>
      rw [hm] at h
      cases o with
      | nx => have h' : D.non = x := h; subst h'; rfl
      | rt d => have h' : d = x := h; subst h'; rfl
      | _ => exact h.elim
  · rw [if_neg hc] at h
    unfold onF at h
    exact h.elim
theorem mod_nn {x y : Int} (hy : 0 < y) : 0 ≤ x % y ∧ x % y < y := ⟨Int.emod_nonneg _ (by omega), Int.emod_lt_of_pos _ hy⟩
end VS

namespace VS
variable {gf : Bool}
open PySem PySem.Spec PyProof.Rows L2
/-! ### errors: raise, try -/
/-- an own class of errors without __init__, over ValueError -/
structure Er (K : PySem.W.Frag) (mg : Str → Option Value) (x : Str) (c : Value) : Prop where
  ex : ∃ C : Addr, c = .ref C ∧ mg x = some (.ref C) ∧ PySem.W.excIn K C [.type "ValueError", .type "Exception", .type "BaseException", .type "object"] "ValueError.__new__" = true ∧ PySem.W.keepIn K (.ref C) = true ∧ PySem.W.subIn K (.ref C) (.type "BaseException") = some true ∧ PySem.W.typeIn K (.ref C) = some (.type "type")
theorem Er.mg {K : PySem.W.Frag} {mg : Str → Option Value} {x : Str} {c : Value} (e : Er K mg x c) : mg x = some c := by
  obtain ⟨C, rfl, h, _⟩ := e.ex
  exact h
/-- a raised class S, a clause's class T -/
theorem exm_sub {K : PySem.W.Frag} {S T : Addr} {b : Bool} (hT : PySem.W.subIn K (.ref T) (.type "BaseException") = some true) (hc : PySem.W.isClsIn K T = true) (ht : PySem.W.typeIn K (.ref T) = some (.type "type")) (hs : PySem.W.subIn K (.ref S) (.ref T) = some b) : PySem.W.exmOne K (.ref S) (.ref T) = some b := by
  have hc' : (PySem.W.clsIn K T).isSome = true := hc
  show (if (PySem.W.subIn K (.ref T) (.type "BaseException") == some true) = true then (if ((PySem.W.clsIn K T).isSome && PySem.W.typeIn K (.ref T) == some (.type "type")) = true then PySem.W.subIn K (.ref S) (.ref T) else none) else none) = some b
  have c1 : (PySem.W.subIn K (.ref T) (.type "BaseException") == some true) = true := by rw [hT] <;> (first | rfl | (unfold wp; rfl))
  have c2 : ((PySem.W.clsIn K T).isSome && PySem.W.typeIn K (.ref T) == some (.type "type")) = true := by rw [hc', ht] <;> (first | rfl | (unfold wp; rfl))
  rw [if_pos c1, if_pos c2]
  exact hs
def raiseM (c : Value) : Mo Out := fun ρ => .ex ⟨c, none⟩ ρ
section
variable {X : Cx} {W : WX} {k : Nat} {x m : Str} {c : Value} {j : Nat} {p p2 pos rpos : Pos}
theorem ss_raise (Ec : Er X.K X.mg x c) (cn : Cn X W k gf) (hg : Gl X x := by rfl) (hdb : (x == ("__debug__" : Str)) = false := by decide) : PS X (.Raise (some (.Call (.Name x p) [.Constant (.str m) j p2] [] pos)) none rpos) (tS X.K W (raiseM c)) := by
  obtain ⟨C, rfl, gC, q, kC, e1, e2⟩ := Ec.ex
  refine psI (ps_raise cn.cm cn.tk (pmk_own PySem.F.excBase_ValueError q gC kC (raises_own e1 e2) hg hdb)) fun Dn σ H h => ?_
  obtain ⟨φ, O, ρ, fm, h⟩ := h
  exact h (.ref C) none σ O H fm .refl ⟨rfl, rfl⟩
/-- does the clause take it -/
def tryM (cov : Value → Option Bool) (b su : Mo Out) : Mo Out := fun ρ => match b ρ with
  | .no => .no
  | .ok o ρ' => .ok o ρ'
  | .ex e ρ' => match cov e.cls with
    | some true => match su ρ' with
      | .ok o ρ2 => .ok o ρ2
      | _ => .no
    | some false => .ex e ρ'
    | none => .no
theorem ss_try {body suite : List Stmt} {b₀ : Stmt} {np pos' : Pos} {b su : Mo Out} (Ec : X.mg x = some c ∨ (X.mg x = none ∧ bootBuiltins x = some c ∧ x ≠ "__name__")) (cn : Cn X W k gf) (hs : X.stack = X.env :: X.outer) (hf : X.env.frame = some X.env.locals)
    (hb : ∀ (W' : WX) (pn : List (Addr × Obj)) (xe : Value → Shared → Prop), Cn (X.tr pn xe) W' k gf → PSs (X.tr pn xe) body (tS X.K W' b))
    (hsu : ∀ (a : Addr) (pn : List (Addr × Obj)), PSs (X.suite a pn) (b₀ :: suite) (tS X.K W0 su)) (hg : Gl X x := by rfl) (hdb : (x == ("__debug__" : Str)) = false := by decide) :
    PS X (.Try body [.ExceptHandler (some (.Name x np)) none (b₀ :: suite) pos'] [] [] pos) (tS X.K W (tryM (fun e => PySem.W.exmOne X.K e c) b su)) := by
  refine psI (ps_try_only (tb := fun W' => tS X.K W' b) (ts := fun _ _ _ => tS X.K W0 su) hs hf ⟨hg, hdb, Ec⟩ cn.tk (fun W' pn xe tk po => hb W' pn xe ⟨tk, po, cn.gu, cn.rm, cn.cm, cn.sy⟩) (fun a oe cls d pn _ _ => hsu a _)) fun Dn σ H h => ?_
  obtain ⟨φ, O, ρ, fm, h⟩ := h
  refine ⟨φ, O, ρ, fm, ?_⟩
  unfold sfin tryM at h
  unfold sfin
  cases e : b ρ with
  | no => rw [e] at h; exact h
  | ok o ρ' => rw [e] at h; exact h
  | ex x ρ' =>
    rw [e] at h
    dsimp only at h ⊢
    intro c' dd σ' O' H' f' s' xc
    have ec : c' = x.cls := xc.1
    cases ev : PySem.W.exmOne X.K x.cls c with
    | none => rw [ev] at h; exact h.elim
    | some v =>
      rw [ev] at h
      refine ⟨v, by rw [ec]; exact ev, fun hv a na => ?_, fun hv => ?_⟩
      · subst hv
        dsimp only at h
        refine ⟨φ, O', ρ', f', ?_⟩
        unfold sfin
        cases e2 : su ρ' with
        | no => rw [e2] at h; exact h
        | ex _ _ => rw [e2] at h; exact h.elim
        | ok o ρ2 =>
          rw [e2] at h
          cases o with
          | nx => exact fun σ2 O2 H2 f2 s2 => h σ2 O2 H2 f2 (s'.trans s2)
          | bk => exact fun σ2 O2 H2 f2 s2 => h σ2 O2 H2 f2 (s'.trans s2)
          | ct => exact fun σ2 O2 H2 f2 s2 => h σ2 O2 H2 f2 (s'.trans s2)
          | rt d => exact fun v σ2 O2 H2 f2 s2 x => h v σ2 O2 H2 f2 (s'.trans s2) x
          | rn d => exact fun v σ2 O2 H2 f2 s2 x => h v σ2 O2 H2 f2 (s'.trans s2) x
      · subst hv
        exact h c' dd σ' O' H' f' s' xc
/-! x or y, by truth -/
def orTV (f g : Mo D) : Mo D := f >>= fun d => match dTru d with
  | some true => pure d
  | some false => g
  | none => fun _ => .no
theorem se_orT {a b : Expr} {rest : List Expr} {ma mb : Mo D} (ha : PE X a (tE X.K W ma)) (hb : PE X (.BoolOp .Or (b :: rest) pos) (tE X.K W mb)) : PE X (.BoolOp .Or (a :: b :: rest) pos) (tE X.K W (orTV ma mb)) := peI (pe_orT ha hb) fun σ H Q q => by
  obtain ⟨φ, O, ρ, fm, q⟩ := q
  refine tX_mono (fin_bind (rel := rD X.K) fm q) fun v H1 ⟨O1, ρ1, d, f1, s1, r1, q1⟩ => ?_
  have dt : Dt X.K O1 H1 d v := r1
  cases e : dTru d with
  | none => rw [e] at q1; exact q1.elim
  | some b =>
    rw [e] at q1
    refine ⟨b, tru_lk dt.lk e, ?_⟩
    cases b with
    | true =>
      rw [if_pos rfl]
      exact q1 v O1 H1 f1 .refl dt
    | false =>
      rw [if_neg (by decide)]
      exact ⟨φ, O1, ρ1, f1, q1⟩
end
section
variable {ρ : List Sl} {R : Ex → List Sl → Prop} {Qd : D → List Sl → Prop} {Qo : Out → List Sl → Prop} {f g : Mo D} {b su : Mo Out} {c : Value} {cov : Value → Option Bool}
/-- by a truth that may not be there -/
def onOB (o : Option Bool) (p q : Prop) : Prop := match o with
  | some true => p
  | some false => q
  | none => False
@[simp] theorem onOB_some {b : Bool} {p q : Prop} : onOB (some b) p q = if b = true then p else q := by cases b <;> (first | rfl | (unfold wp; rfl))
@[simp] theorem onOB_none {p q : Prop} : onOB none p q = False := rfl
@[simp] theorem wp_orTV : wp (orTV f g) ρ Qd R = wp f ρ (fun d ρ' => onOB (dTru d) (Qd d ρ') (wp g ρ' Qd R)) R := by
  unfold orTV
  rw [wp_bind]
  congr 1
  funext d ρ'
  cases dTru d with
  | none => first | rfl | (unfold wp; rfl)
  | some b => cases b <;> (first | rfl | (unfold wp; rfl))
@[simp] theorem wp_raise : wp (raiseM c) ρ Qo R = R ⟨c, none⟩ ρ := by unfold wp; rfl
@[simp] theorem wp_try : wp (tryM cov b su) ρ Qo R = wp b ρ Qo (fun e ρ' => onOB (cov e.cls) (wp su ρ' Qo R0) (R e ρ')) := by
  unfold wp wpR tryM
  cases h : b ρ with
  | no => first | rfl | (unfold wp; rfl)
  | ok o ρ' => first | rfl | (unfold wp; rfl)
  | ex e ρ' =>
    dsimp only
    cases cov e.cls with
    | none => first | rfl | (unfold wp; rfl)
    | some v =>
      cases v with
      | true =>
        dsimp only
        cases su ρ' <;> (first | rfl | (unfold wp; rfl))
      | false => first | rfl | (unfold wp; rfl)
@[simp] theorem dTru_lst {ds : List D} : dTru (.lst ds) = some (!ds.isEmpty) := rfl
@[simp] theorem dTru_tup {ds : List D} : dTru (.tup ds) = some (!ds.isEmpty) := rfl
@[simp] theorem dTru_non : dTru .non = some false := rfl
@[simp] theorem dTru_bl {b : Bool} : dTru (.bl b) = some b := rfl
@[simp] theorem dTru_int {i : Int} : dTru (.int i) = some (i != 0) := rfl
end
/-- the goal that k_head leaves (case hc), the function told with the facts -/
theorem walk_dataE {l : PySem.W.OpenLaw} {n k : Nat} {q : Program} {loose : List Str} {XP : (Str → Option Value) → Heap → Prop} {YP : World → Heap → Prop} {d : DefRec} {K : Params → PySem.W.Frag} {x : Str} (hn : l.most = some n) (hn2 : n ≤ sizeLine) (hdf : d.params.defaults = []) (hr : Room k callerA) (hi : importsNone q = true)
    (hYE : ∀ (w : World) (h : Heap), YP w h → (K w.params).In h)
    (Fn : ∀ (w : World) (mg : Str → Option Value) (fa : Addr) (h : Heap), (K w.params).In h → h.Ns mainGlobals mg → mg d.name = some (.ref fa) → ∃ (fd : FuncData) (F : FF), (∀ (s : Shared) (u : Value), BindsTo s fd ⟨[u], []⟩ [(x, u)]) ∧
      (∀ ns : List Int, ns.length ≤ n → (∀ z ∈ ns, Builtin.Int.intBits z ≤ 1048576) → F none [.scr ns] = .ok (.bl true) none) ∧
      ∀ base : Heap, (K w.params).In base → base.Ns mainGlobals mg → Sys base → FnG l.prog w (K w.params) mg base k fa fd [x] (SpF (K w.params) false 1 F)) : PySem.W.WalkO q loose XP YP l.row.toRowW d [] (fun f vs => PySem.call f vs) := by
  refine Att.attach_callB hn hdf fun w s₀ s₁ mg mb fa o pm cd doc a vs ns G Y ho hd hcd hmg hobj hints hlen hbits hg => ?_
  have kin := hYE w _ Y
  obtain ⟨fd, F, hb, hF, fn⟩ := Fn w mg fa _ kin G.T.g hmg
  obtain ⟨mm, hm, _⟩ := (G.T.seer hi).mods
  exact law_run kin G.T.g G.T.b G.T.builtins G.T.nolimit ⟨mm, hm⟩ hg hobj hints (Nat.le_trans hlen hn2) hr hb fn (hF ns hlen hbits)
end VS

namespace VS
open PySem PySem.Spec PyProof.Rows L2
theorem sz16 : (16000000 : Nat) ≤ sizeLine := by decide
theorem szT {k : Nat} (h : k ≤ 16000000) : (k ≤ sizeLine) ↔ True := ⟨fun _ => trivial, fun _ => Nat.le_trans h sz16⟩
theorem slT {k : Nat} (h : k < 16000000) : (k < sizeLine) ↔ True := ⟨fun _ => trivial, fun _ => Nat.lt_of_lt_of_le h sz16⟩
theorem wpR_mono {α : Type} {r : Rs α} {Q Q' : α → List Sl → Prop} {R : Ex → List Sl → Prop} (h : wpR r Q R) (i : ∀ a ρ', Q a ρ' → Q' a ρ') : wpR r Q' R := by
  unfold wpR at h ⊢
  split at h
  · exact h
  · exact i _ _ h
  · exact h
/-- a comprehension that changes nothing: a filter and a map -/
theorem lc_pure {vs : List Nat} {t : Tm} {c : Mo Bool} {e : Mo D} {ds : List D} {ρ : List Sl} {Q : D → List Sl → Prop} {R : Ex → List Sl → Prop} (p : D → Bool) (f : D → D) (hz : ds.length ≤ 16000000)
    (hs : ∀ d ∈ ds, ∃ ρ2, t d ρ = some ρ2 ∧ wp c ρ2 (fun b ρ3 => b = p d ∧ if b = true then wp e ρ3 (fun x ρ4 => x = f d ∧ wipeS ρ4 vs = ρ) R0 else wipeS ρ3 vs = ρ) R0)
    (h : Q (.lst ((ds.filter p).map f)) ρ) : wpR (lcR vs t c e [] ds ρ) Q R := by
  refine lc_inv (I := fun i acc ρ' => ρ' = ρ ∧ acc = ((ds.take i).filter p).map f) ⟨rfl, rfl⟩ ?_ ?_
  · rintro acc ρ' ⟨rfl, rfl⟩
    rw [List.take_length]
    exact h
  · rintro i d acc ρ' e0 ⟨rfl, rfl⟩
    obtain ⟨ρ2, e1, h1⟩ := hs d (List.mem_of_getElem? e0)
    refine ⟨ρ2, e1, wp_mono h1 fun b ρ3 h2 => ?_⟩
    obtain ⟨hb, h2⟩ := h2
    have et : ds.take (i + 1) = ds.take i ++ [d] := by rw [List.take_add_one, e0]; rfl
    have hl : (((ds.take i).filter p).map f).length < sizeLine := by
      have h1 := List.length_filter_le p (ds.take i)
      have h3 : i < ds.length := (List.getElem?_eq_some_iff.mp e0).1
      rw [List.length_take] at h1
      rw [List.length_map]
      have := sz16
      omega
    cases b with
    | true =>
      rw [if_pos rfl] at h2 ⊢
      refine wp_mono h2 fun x ρ4 h3 => ⟨hl, h3.2, ?_⟩
      rw [et, List.filter_append, List.map_append, h3.1]
      congr 1
      rw [List.filter_cons, ← hb]
      rfl
    | false =>
      rw [if_neg (by decide)] at h2 ⊢
      refine ⟨h2, ?_⟩
      rw [et, List.filter_append, List.map_append]
      have : [d].filter p = [] := by rw [List.filter_cons, ← hb]; rfl
      rw [this]
      simp
theorem nodup_len {α : Type} [DecidableEq α] : ∀ {l m : List α}, l.Nodup → (∀ x ∈ l, x ∈ m) → l.length ≤ m.length
  | [], _, _, _ => Nat.zero_le _
  | a :: l, m, nd, h => by
    have nd' := List.nodup_cons.mp nd
    have ha := h a List.mem_cons_self
    have := nodup_len (l := l) (m := m.erase a) nd'.2 fun x hx => (List.mem_erase_of_ne (fun (e : x = a) => nd'.1 (by rw [← e]; exact hx))).mpr (h x (List.mem_cons_of_mem _ hx))
    rw [List.length_erase_of_mem ha] at this
    have hp : 0 < m.length := List.length_pos_iff.mpr fun z => by rw [z] at ha; cases ha
    rw [List.length_cons]
    omega
end VS

namespace VS
open PySem PySem.Spec PyProof.Rows L2
/-! values that can be shown and compared: what holds of all leaves, sizes that add up -/
def goodK : Key → Bool
  | .inl i => decide (i.natAbs < 10 ^ 40)
  | .inr x => x.cps.toList.all fun c => decide (c < 128)
mutual
def good : D → Bool
  | .non => true
  | .bl _ => true
  | .int i => decide (i.natAbs < 10 ^ 40)
  | .str x => x.cps.toList.all fun c => decide (c < 128)
  | .tup ds => goodAll ds
  | .lst ds => goodAll ds
  | .dct kvs => goodKv kvs
  | .obj _ _ => false
  | .scr _ => false
  | .kls _ => false
  | .err _ => false
  | .exn _ => false
  | .exc _ _ => false
  | .dtk _ => false
  | .ktu _ => false
def goodAll : List D → Bool
  | [] => true
  | d :: ds => good d && goodAll ds
def goodKv : List (Key × D) → Bool
  | [] => true
  | (k, d) :: r => goodK k && good d && goodKv r
end
def wtK : Key → Nat
  | .inl _ => 140
  | .inr x => x.length
mutual
def wt : D → Nat
  | .int _ => 140
  | .str x => x.length
  | .tup ds => wtAll ds
  | .lst ds => wtAll ds
  | .dct kvs => wtKv kvs
  | .non => 0
  | .bl _ => 0
  | .obj _ _ => 0
  | .scr _ => 0
  | .kls _ => 0
  | .err _ => 0
  | .exn _ => 0
  | .exc _ _ => 0
  | .dtk _ => 0
  | .ktu _ => 0
def wtAll : List D → Nat
  | [] => 0
  | d :: ds => wt d + 1 + wtAll ds
def wtKv : List (Key × D) → Nat
  | [] => 0
  | (k, d) :: r => wtK k + wt d + 2 + wtKv r
end
mutual
def dp : D → Nat
  | .tup ds => dpAll ds + 1
  | .lst ds => dpAll ds + 1
  | .dct kvs => dpKv kvs + 1
  | .non => 0
  | .bl _ => 0
  | .int _ => 0
  | .str _ => 0
  | .obj _ _ => 0
  | .scr _ => 0
  | .kls _ => 0
  | .err _ => 0
  | .exn _ => 0
  | .exc _ _ => 0
  | .dtk _ => 0
  | .ktu _ => 0
def dpAll : List D → Nat
  | [] => 0
  | d :: ds => max (dp d) (dpAll ds)
def dpKv : List (Key × D) → Nat
  | [] => 0
  | (_, d) :: r => max (dp d) (dpKv r)
end
mutual
def nodc : D → Bool
  | .tup ds => nodcAll ds
  | .lst ds => nodcAll ds
  | .dct _ => false
  | .obj _ _ => false
  | .scr _ => false
  | .kls _ => false
  | .err _ => false
  | .exn _ => false
  | .exc _ _ => false
  | .dtk _ => false
  | .ktu _ => false
  | .non => true
  | .bl _ => true
  | .int _ => true
  | .str _ => true
def nodcAll : List D → Bool
  | [] => true
  | d :: ds => nodc d && nodcAll ds
end
theorem goodAll_iff {ds : List D} : goodAll ds = true ↔ ∀ d ∈ ds, good d = true := by
  induction ds with
  | nil => unfold goodAll; simp
  | cons d ds ih => unfold goodAll; rw [Bool.and_eq_true, ih, List.forall_mem_cons]
theorem nodcAll_iff {ds : List D} : nodcAll ds = true ↔ ∀ d ∈ ds, nodc d = true := by
  induction ds with
  | nil => unfold nodcAll; simp
  | cons d ds ih => unfold nodcAll; rw [Bool.and_eq_true, ih, List.forall_mem_cons]
theorem dpAll_le {ds : List D} {k : Nat} : dpAll ds ≤ k ↔ ∀ d ∈ ds, dp d ≤ k := by
  induction ds with
  | nil => unfold dpAll; simp
  | cons d ds ih => unfold dpAll; rw [List.forall_mem_cons, ← ih]; omega
theorem wtAll_nil : wtAll [] = 0 := by unfold wtAll; rfl
theorem wtAll_cons {d : D} {ds : List D} : wtAll (d :: ds) = wt d + 1 + wtAll ds := by conv => lhs; unfold wtAll
theorem wtAll_app {a b : List D} : wtAll (a ++ b) = wtAll a + wtAll b := by
  induction a with
  | nil => rw [List.nil_append, wtAll_nil]; omega
  | cons d a ih => rw [List.cons_append, wtAll_cons, wtAll_cons, ih]; omega
theorem wtAll_rev {a : List D} : wtAll a.reverse = wtAll a := by
  induction a with
  | nil => rfl
  | cons d a ih => rw [List.reverse_cons, wtAll_app, ih, wtAll_cons, wtAll_cons, wtAll_nil]; omega
theorem wtAll_take {a : List D} {k : Nat} : wtAll (a.take k) + wtAll (a.drop k) = wtAll a := by
  rw [← wtAll_app, List.take_append_drop]
theorem wtAll_len {a : List D} : a.length ≤ wtAll a := by
  induction a with
  | nil => exact Nat.zero_le _
  | cons d a ih => rw [List.length_cons, wtAll_cons]; omega
theorem wtAll_cut {a : List D} {lo hi : Option Int} : wtAll (cutD a lo hi) ≤ wtAll a := by
  unfold cutD
  have h1 := wtAll_take (a := a.drop (HT.sIx a.length 0 lo)) (k := HT.sIx a.length a.length hi - HT.sIx a.length 0 lo)
  have h2 := wtAll_take (a := a) (k := HT.sIx a.length 0 lo)
  omega
theorem wtAll_le {a : List D} {m l : Nat} (h : ∀ d ∈ a, wt d ≤ m) (hl : a.length ≤ l) : wtAll a ≤ l * (m + 1) := by
  have : wtAll a ≤ a.length * (m + 1) := by
    induction a with
    | nil => rw [wtAll_nil]; exact Nat.zero_le _
    | cons d a ih =>
      have h1 := h d List.mem_cons_self
      have h2 := ih (fun x hx => h x (List.mem_cons_of_mem _ hx)) (by rw [List.length_cons] at hl; omega)
      rw [wtAll_cons, List.length_cons, Nat.add_mul, Nat.one_mul]
      omega
  exact Nat.le_trans this (Nat.mul_le_mul_right _ hl)
theorem gd_key {k : Key} (h : goodK k = true) : (kPy k).leavesShort 50 = true ∧ (kPy k).showable = true ∧ (kPy k).weight ≤ wtK k ∧ (kPy k).depth = 0 := by
  cases k with
  | inl i =>
    obtain ⟨p, e, h1, h2, h3, h4⟩ := gd_int (of_decide_eq_true (show decide (i.natAbs < 10 ^ 40) = true from h))
    unfold pr at e
    cases e
    exact ⟨h1, h2, h3, by unfold kPy PyData.depth; rfl⟩
  | inr x =>
    have hx : ∀ c ∈ x.cps.toList, c < 16 ^ 8 := fun c hc => by
      have := of_decide_eq_true (List.all_eq_true.mp h c hc)
      omega
    obtain ⟨p, e, h1, h2, h3, h4⟩ := gd_str (m := x.length) (x := x.cps.toList) (by unfold Str.length; simp) hx
    rw [← tx_of] at e
    unfold pr at e
    cases e
    exact ⟨h1, h2, h3, by unfold kPy PyData.depth; rfl⟩
mutual
theorem good_gd : ∀ (d : D), good d = true → Gd (wt d) (dp d) d
  | .non, _ => by unfold wt dp; exact gd_non
  | .bl _, _ => by unfold wt dp; exact gd_bl
  | .int i, h => by unfold wt dp; unfold good at h; exact gd_int (of_decide_eq_true h)
  | .str x, h => by
    unfold wt dp
    unfold good at h
    have hx : ∀ c ∈ x.cps.toList, c < 16 ^ 8 := fun c hc => by
      have := of_decide_eq_true (List.all_eq_true.mp h c hc)
      omega
    have z := gd_str (m := x.length) (x := x.cps.toList) (by unfold Str.length; simp) hx
    rw [← tx_of] at z
    exact z
  | .tup ds, h => by
    unfold good at h
    obtain ⟨ps, e, h1, h2, h3, h4⟩ := goodAll_gd ds h
    unfold wt dp
    exact ⟨.tuple ps, by unfold pr; rw [e]; rfl, by unfold PyData.leavesShort; exact h1, by unfold PyData.showable; exact h2, by unfold PyData.weight; exact h3, by unfold PyData.depth; omega⟩
  | .lst ds, h => by
    unfold good at h
    obtain ⟨ps, e, h1, h2, h3, h4⟩ := goodAll_gd ds h
    unfold wt dp
    exact ⟨.list ps, by unfold pr; rw [e]; rfl, by unfold PyData.leavesShort; exact h1, by unfold PyData.showable; exact h2, by unfold PyData.weight; exact h3, by unfold PyData.depth; omega⟩
  | .dct kvs, h => by
    unfold good at h
    obtain ⟨ps, e, h1, h2, h3, h4⟩ := goodKv_gd kvs h
    unfold wt dp
    exact ⟨.dict ps, by unfold pr; rw [e]; rfl, by unfold PyData.leavesShort; exact h1, by unfold PyData.showable; exact h2, by unfold PyData.weight; exact h3, by unfold PyData.depth; omega⟩
  | .obj _ _, h => by unfold good at h; cases h
  | .scr _, h => by unfold good at h; cases h
  | .kls _, h => by unfold good at h; cases h
  | .err _, h => by unfold good at h; cases h
  | .exn _, h => by unfold good at h; cases h
  | .exc _ _, h => by unfold good at h; cases h
  | .dtk _, h => by unfold good at h; cases h
  | .ktu _, h => by unfold good at h; cases h
theorem goodAll_gd : ∀ (ds : List D), goodAll ds = true → ∃ ps, prAll ds = some ps ∧ PyData.leavesShortAll 50 ps = true ∧ PyData.showableAll ps = true ∧ PyData.weightAll ps ≤ wtAll ds ∧ PyData.depthAll ps ≤ dpAll ds
  | [], _ => ⟨[], by unfold prAll; rfl, by unfold PyData.leavesShortAll; rfl, by unfold PyData.showableAll; rfl, by unfold PyData.weightAll; omega, by unfold PyData.depthAll; omega⟩
  | d :: ds, h => by
    unfold goodAll at h
    rw [Bool.and_eq_true] at h
    obtain ⟨p, e, h1, h2, h3, h4⟩ := good_gd d h.1
    obtain ⟨ps, e', g1, g2, g3, g4⟩ := goodAll_gd ds h.2
    refine ⟨p :: ps, by unfold prAll; rw [e, e'], ?_, ?_, ?_, ?_⟩
    · unfold PyData.leavesShortAll; rw [h1, g1]; rfl
    · unfold PyData.showableAll; rw [h2, g2]; rfl
    · unfold PyData.weightAll; rw [wtAll_cons]; omega
    · unfold PyData.depthAll dpAll; omega
theorem goodKv_gd : ∀ (ds : List (Key × D)), goodKv ds = true → ∃ ps, prKv ds = some ps ∧ PyData.leavesShortKv 50 ps = true ∧ PyData.showableKv ps = true ∧ PyData.weightKv ps ≤ wtKv ds ∧ PyData.depthKv ps ≤ dpKv ds
  | [], _ => ⟨[], by unfold prKv; rfl, by unfold PyData.leavesShortKv; rfl, by unfold PyData.showableKv; rfl, by unfold PyData.weightKv; omega, by unfold PyData.depthKv; omega⟩
  | (k, d) :: ds, h => by
    unfold goodKv at h
    rw [Bool.and_eq_true, Bool.and_eq_true] at h
    obtain ⟨p, e, h1, h2, h3, h4⟩ := good_gd d h.1.2
    obtain ⟨ps, e', g1, g2, g3, g4⟩ := goodKv_gd ds h.2
    obtain ⟨k1, k2, k3, k4⟩ := gd_key h.1.1
    refine ⟨(kPy k, p) :: ps, by unfold prKv; rw [e, e'], ?_, ?_, ?_, ?_⟩
    · unfold PyData.leavesShortKv; rw [k1, h1, g1]; rfl
    · unfold PyData.showableKv; rw [k2, h2, g2]; rfl
    · unfold PyData.weightKv wtKv; omega
    · unfold PyData.depthKv dpKv; omega
end
mutual
theorem good_py : ∀ (d : D), good d = true → nodc d = true → ∃ p, py d = some p ∧ p.canLay0 = true ∧ p.depth ≤ dp d
  | .non, _, _ => ⟨_, by unfold py; rfl, by unfold PyData.canLay0; rfl, by unfold PyData.depth; omega⟩
  | .bl _, _, _ => ⟨_, by unfold py; rfl, by unfold PyData.canLay0; rfl, by unfold PyData.depth; omega⟩
  | .int i, _, _ => ⟨_, by unfold py; rfl, by unfold PyData.canLay0; rfl, by unfold PyData.depth; omega⟩
  | .str x, h, _ => by
    unfold good at h
    refine ⟨_, by unfold py; rfl, ?_, by unfold PyData.depth; omega⟩
    unfold PyData.canLay0 PyData.strOk
    rw [← Array.all_toList, List.all_eq_true]
    intro c hc
    have := of_decide_eq_true (List.all_eq_true.mp h c hc)
    exact decide_eq_true (by omega)
  | .tup ds, h, n => by
    unfold good at h
    unfold nodc at n
    obtain ⟨ps, e, h1, h2⟩ := goodAll_py ds h n
    exact ⟨.tuple ps, by unfold py; rw [e]; rfl, by unfold PyData.canLay0; exact h1, by unfold PyData.depth dp; omega⟩
  | .lst ds, h, n => by
    unfold good at h
    unfold nodc at n
    obtain ⟨ps, e, h1, h2⟩ := goodAll_py ds h n
    exact ⟨.list ps, by unfold py; rw [e]; rfl, by unfold PyData.canLay0; exact h1, by unfold PyData.depth dp; omega⟩
  | .dct _, _, n => by unfold nodc at n; cases n
  | .obj _ _, _, n => by unfold nodc at n; cases n
  | .scr _, _, n => by unfold nodc at n; cases n
  | .kls _, _, n => by unfold nodc at n; cases n
  | .err _, _, n => by unfold nodc at n; cases n
  | .exn _, _, n => by unfold nodc at n; cases n
  | .exc _ _, _, n => by unfold nodc at n; cases n
  | .dtk _, _, n => by unfold nodc at n; cases n
  | .ktu _, _, n => by unfold nodc at n; cases n
theorem goodAll_py : ∀ (ds : List D), goodAll ds = true → nodcAll ds = true → ∃ ps, pyAll ds = some ps ∧ PyData.canLayAll0 ps = true ∧ PyData.depthAll ps ≤ dpAll ds
  | [], _, _ => ⟨[], by unfold pyAll; rfl, by unfold PyData.canLayAll0; rfl, by unfold PyData.depthAll; omega⟩
  | d :: ds, h, n => by
    unfold goodAll at h
    unfold nodcAll at n
    rw [Bool.and_eq_true] at h n
    obtain ⟨p, e, h1, h2⟩ := good_py d h.1 n.1
    obtain ⟨ps, e', g1, g2⟩ := goodAll_py ds h.2 n.2
    refine ⟨p :: ps, by unfold pyAll; rw [e, e'], ?_, ?_⟩
    · unfold PyData.canLayAll0; rw [h1, g1]; rfl
    · unfold PyData.depthAll dpAll; omega
end
/-- a value of a weight of at most m, at most j deep -/
structure Vl (m j : Nat) (d : D) : Prop where
  g : good d = true
  w : wt d ≤ m
  h : dp d ≤ j
theorem Vl.gd {m j : Nat} {d : D} (v : Vl m j d) : Gd m j d := (good_gd d v.g).mono v.w v.h
theorem Vl.mono {m j m' j' : Nat} {d : D} (v : Vl m j d) (hm : m ≤ m') (hj : j ≤ j') : Vl m' j' d := ⟨v.g, Nat.le_trans v.w hm, Nat.le_trans v.h hj⟩
theorem vl_tup {m j : Nat} {ds : List D} (h : ∀ d ∈ ds, good d = true ∧ dp d ≤ j) (hw : wtAll ds ≤ m) : Vl m (j + 1) (.tup ds) :=
  ⟨by unfold good; exact goodAll_iff.mpr fun d hd => (h d hd).1, by unfold wt; exact hw, by unfold dp; have := dpAll_le.mpr fun d hd => (h d hd).2; omega⟩
theorem vl_lst {m j : Nat} {ds : List D} (h : ∀ d ∈ ds, good d = true ∧ dp d ≤ j) (hw : wtAll ds ≤ m) : Vl m (j + 1) (.lst ds) :=
  ⟨by unfold good; exact goodAll_iff.mpr fun d hd => (h d hd).1, by unfold wt; exact hw, by unfold dp; have := dpAll_le.mpr fun d hd => (h d hd).2; omega⟩
/-- a written value: decided -/
def vlB (m j : Nat) (d : D) : Bool := good d && (decide (wt d ≤ m) && decide (dp d ≤ j))
theorem vl_of {m j : Nat} {d : D} (h : vlB m j d = true) : Vl m j d := by
  unfold vlB at h
  rw [Bool.and_eq_true, Bool.and_eq_true] at h
  exact ⟨h.1, of_decide_eq_true h.2.1, of_decide_eq_true h.2.2⟩
theorem Vl.repr {m j : Nat} {d : D} (v : Vl m j d) (hm : m ≤ 300000 := by decide) (hj : j ≤ 60 := by decide) : ∃ s, dRepr [d] = some (.str s) := gd_repr v.gd hm hj
theorem ne_nil_lst {ds : List D} (h : ∀ d ∈ ds, good d = true) (n : ∀ d ∈ ds, nodc d = true) (j : ∀ d ∈ ds, dp d ≤ 60) : dNe (.lst ds) (.lst []) = some (.bl (!ds.isEmpty)) := by
  obtain ⟨ps, e, h1, h2⟩ := goodAll_py ds (goodAll_iff.mpr h) (nodcAll_iff.mpr n)
  have h3 := dpAll_le.mpr j
  have p1 : py (.lst ds) = some (.list ps) := by unfold py; rw [e]; rfl
  have p2 : py (.lst []) = some (.list []) := by unfold py pyAll; rfl
  have s1 : SeqAt.shaped (.list ps) = true := by
    unfold SeqAt.shaped PyData.canLay0 PyData.depth
    rw [h1, Bool.true_and]
    exact decide_eq_true (by omega)
  show (dEqv (.lst ds) (.lst [])).map (fun b => D.bl (!b)) = _
  unfold dEqv
  rw [p1, p2]
  dsimp only
  rw [if_pos ⟨s1, by decide⟩]
  cases ds with
  | nil => unfold pyAll at e; cases e; rfl
  | cons d ds =>
    unfold pyAll at e
    cases e1 : py d with
    | none => rw [e1] at e; cases e
    | some p => cases e2 : pyAll ds with
      | none => rw [e1, e2] at e; cases e
      | some ps' => rw [e1, e2] at e; cases e; rfl
theorem cut_mem' {xs : List D} {lo hi : Option Int} {y : D} (h : y ∈ cutD xs lo hi) : y ∈ xs := List.mem_of_mem_drop (List.mem_of_mem_take h)
end VS

namespace VS
open PySem PySem.Spec PyProof.Rows L2
/-! ### own classes: what of the written part they must have -/
structure Klass (K : PySem.W.Frag) (C : Addr) : Prop where
  cl : Cls K C
  ha : PySem.W.findIn K (.ref C) "__class__" = some (some (.builtin "object.__class__"))
  hn : PySem.W.specialIn K (.builtin "object.__class__") "__get__" = some (some (.builtin "getset_descriptor.__get__"))
  htk : PySem.W.takesIn K (.builtin "object.__class__") = some true
  hm : PySem.W.mroIn K C (.type "object") = some true
  cd : PySem.W.isClsIn K C = true
  ty : PySem.W.typeIn K (.ref C) = some (.type "type")
  dn : ∀ T : Ty, PySem.W.subIn K (.type T.nm) (.ref C) = some false
  up : ∀ T : Ty, PySem.W.subIn K (.ref C) (.type T.nm) = some false
theorem Klass.down {K : PySem.W.Frag} {C : Addr} (k : Klass K C) (T : Ty) : PySem.W.kitOne K (.type T.nm) (.ref C) = some false := by
  have c : ((PySem.W.clsIn K C).isSome && PySem.W.typeIn K (.ref C) == some (.type "type")) = true := by
    have h1 : (PySem.W.clsIn K C).isSome = true := k.cd
    rw [h1, k.ty]; rfl
  show (if ((Value.type T.nm) == Value.ref C) = true then some true else if _ = true then PySem.W.subIn K (.type T.nm) (.ref C) else none) = some false
  rw [if_neg (by simp), if_pos c]
  exact k.dn T
theorem kitMeta_ty : ∀ T : Ty, PySem.W.kitMeta T.nm = true := by intro T; cases T <;> decide +kernel
theorem Klass.over {K : PySem.W.Frag} {C : Addr} (k : Klass K C) (T : Ty) : PySem.W.kitOne K (.ref C) (.type T.nm) = some false := by
  show (if ((Value.ref C) == Value.type T.nm) = true then some true else if PySem.W.kitMeta T.nm = true then PySem.W.subIn K (.ref C) (.type T.nm) else none) = some false
  rw [if_neg (by simp), if_pos (kitMeta_ty T)]
  exact k.up T
theorem Klass.one {K : PySem.W.Frag} {C C0 : Addr} {b : Bool} (k : Klass K C0) (h : C ≠ C0 → PySem.W.subIn K (.ref C) (.ref C0) = some false) : PySem.W.kitOne K (.ref C) (.ref C0) = some (decide (C = C0)) := by
  have c : ((PySem.W.clsIn K C0).isSome && PySem.W.typeIn K (.ref C0) == some (.type "type")) = true := by
    have h1 : (PySem.W.clsIn K C0).isSome = true := k.cd
    rw [h1, k.ty]; rfl
  show (if ((Value.ref C) == Value.ref C0) = true then some true else if _ = true then PySem.W.subIn K (.ref C) (.ref C0) else none) = some (decide (C = C0))
  by_cases e : C = C0
  · subst e
    rw [if_pos (by simp)]
    simp
  · rw [if_neg (by simpa using e), if_pos c, h e]
    simp [e]
/-- the classes that there are -/
structure Klasses (K : PySem.W.Frag) (cs : List Addr) : Prop where
  k : ∀ C ∈ cs, Klass K C
  ap : ∀ C ∈ cs, ∀ C' ∈ cs, C ≠ C' → PySem.W.subIn K (.ref C) (.ref C') = some false
theorem lk_obj {K : PySem.W.Frag} {O : Ow} {H : Hp} {C : Addr} {fs : List (Str × D)} {v : V} (l : Lk K O H (.obj C fs) v) : ∃ a dx es, v = .ref a ∧ H a = some (.ins C dx es) ∧ DtFs K O H fs es := l
theorem Klass.tyx {K : PySem.W.Frag} {C : Addr} (k : Klass K C) {H : Hp} {a dx : Addr} {fs : List (Str × V)} (e : H a = some (.ins C dx fs)) : TyX K H (.ref a) (.ref C) := .base (.ins e k.cl k.ha k.hn k.htk k.hm)
/-! isinstance(x, T), x perhaps an instance -/
def dIsiK (cs : List Addr) (T : Ty) (d : D) : Option D := match d with
  | .obj C _ => if C ∈ cs then some (.bl false) else none
  | _ => (dTy d).map fun t => .bl (isA t T)
def isiKM (cs : List Addr) (T : Ty) (f : Mo Pl) : Mo D := f >>= fun q => look q >>= fun d => Mo.lift (dIsiK cs T d)
/-! isinstance(x, C) -/
def dIsiC (cs : List Addr) (C0 : Addr) (d : D) : Option D := match d with
  | .obj C _ => if C ∈ cs ∧ C0 ∈ cs then some (.bl (decide (C = C0))) else none
  | _ => if C0 ∈ cs then (dTy d).map fun _ => .bl false else none
def isiCM (cs : List Addr) (C0 : Addr) (f : Mo Pl) : Mo D := f >>= fun q => look q >>= fun d => Mo.lift (dIsiC cs C0 d)
section
variable {X : Cx} {W : WX} {e : Expr} {f : Mo Pl} {p p2 pos : Pos} {x : Str} {cs : List Addr} {C0 : Addr}
theorem se_isiK (kc : Klasses X.K cs) (T : Ty) (he : PE X e (tP X.K W f)) (hm : X.mg "isinstance" = none) (hm2 : X.mg x = none) (hv2 : bootBuiltins x = some (.type T.nm) := by decide +kernel) (hg : Gl X "isinstance" := by rfl) (hg2 : Gl X x := by rfl) (hn2 : x ≠ "__name__" := by decide) (hd2 : (x == ("__debug__" : Str)) = false := by decide)
    (hs1 : starEach [e, .Name x p2] X.env = (false, eval e X.env) :: starEach [.Name x p2] X.env := by rfl) (hs2 : starEach [.Name x p2] X.env = (false, eval (.Name x p2) X.env) :: starEach [] X.env := by rfl) (hpl : (backTo pos (starEach [.Name x p2] X.env)).any (·.1) = false := by rfl) :
    PE X (.Call (.Name "isinstance" p) [e, .Name x p2] [] pos) (tE X.K W (isiKM cs T f)) :=
  peI (pe_callB call_isi hg hm (by decide +kernel) (pa_cons he (pa_cons (pe_bltn hg2 hm2 hv2 (show RelV (.ty T.nm) (.type T.nm) from rfl) hn2 hd2) pa_nil hs2) hs1) (by decide) (by decide) hs1 hpl) fun σ H Q q => by
    obtain ⟨φ, O, ρ, fm, q⟩ := q
    refine tX_mono (fin_bind (rel := rP X.K) fm q) fun v H1 ⟨O1, ρ1, p, f1, s1, r1, q1⟩ => ?_
    obtain ⟨d, ld, q1⟩ := fin_look f1 (rP_ok r1) q1
    obtain ⟨r, er, q1⟩ := fin_lift q1
    have other : (∀ C fs, d ≠ .obj C fs) → ∃ (x : V) (c : V) (t u : Value) (b : Bool), [v, V.ty T.nm] = [x, c] ∧ ClsV c u ∧ TyX X.K H1 x t ∧ PySem.W.kitOne X.K t u = some b ∧ Q (.bl b) H1 := fun hno => by
      have er' : (dTy d).map (fun t => D.bl (isA t T)) = some r := by
        cases d with
        | obj C fs => exact absurd rfl (hno C fs)
        | _ => exact er
      cases et : dTy d with
      | none => rw [et] at er'; cases er'
      | some t =>
        rw [et] at er'
        cases er'
        exact ⟨v, .ty T.nm, _, _, isA t T, rfl, .ty _, lk_ty ld et, kit_ty (kitB_isA t T), q1 (.bl (isA t T)) O1 H1 f1 .refl dt_bl⟩
    cases d with
    | obj C fs =>
      have er' : (if C ∈ cs then some (D.bl false) else none) = some r := er
      split at er'
      · rename_i hc
        cases er'
        obtain ⟨a, dx, es, rfl, ea, _⟩ := lk_obj ld
        exact ⟨.ref a, .ty T.nm, _, _, false, rfl, .ty _, (kc.k C hc).tyx ea, (kc.k C hc).over T, q1 (.bl false) O1 H1 f1 .refl dt_bl⟩
      · cases er'
    | _ => exact other (fun _ _ z => nomatch z)
theorem se_isiC (kc : Klasses X.K cs) (C0 : Addr) (he : PE X e (tP X.K W f)) (hm : X.mg "isinstance" = none) (hm2 : X.mg x = some (.ref C0)) (hg : Gl X "isinstance" := by rfl) (hg2 : Gl X x := by rfl) (hd2 : (x == ("__debug__" : Str)) = false := by decide)
    (hs1 : starEach [e, .Name x p2] X.env = (false, eval e X.env) :: starEach [.Name x p2] X.env := by rfl) (hs2 : starEach [.Name x p2] X.env = (false, eval (.Name x p2) X.env) :: starEach [] X.env := by rfl) (hpl : (backTo pos (starEach [.Name x p2] X.env)).any (·.1) = false := by rfl) :
    PE X (.Call (.Name "isinstance" p) [e, .Name x p2] [] pos) (tE X.K W (isiCM cs C0 f)) :=
  peI (pe_callB call_isi hg hm (by decide +kernel) (pa_cons he (pa_cons (pe_glob hg2 hm2 (show RelV (.ref C0) (.ref C0) from rfl) hd2) pa_nil hs2) hs1) (by decide) (by decide) hs1 hpl) fun σ H Q q => by
    obtain ⟨φ, O, ρ, fm, q⟩ := q
    refine tX_mono (fin_bind (rel := rP X.K) fm q) fun v H1 ⟨O1, ρ1, p, f1, s1, r1, q1⟩ => ?_
    obtain ⟨d, ld, q1⟩ := fin_look f1 (rP_ok r1) q1
    obtain ⟨r, er, q1⟩ := fin_lift q1
    have other : (∀ C fs, d ≠ .obj C fs) → ∃ (x : V) (c : V) (t u : Value) (b : Bool), [v, V.ref C0] = [x, c] ∧ ClsV c u ∧ TyX X.K H1 x t ∧ PySem.W.kitOne X.K t u = some b ∧ Q (.bl b) H1 := fun hno => by
      have er' : (if C0 ∈ cs then (dTy d).map (fun _ => D.bl false) else none) = some r := by
        cases d with
        | obj C fs => exact absurd rfl (hno C fs)
        | _ => exact er
      split at er'
      · rename_i hc
        cases et : dTy d with
        | none => rw [et] at er'; cases er'
        | some t =>
          rw [et] at er'
          cases er'
          exact ⟨v, .ref C0, _, _, false, rfl, .own _, lk_ty ld et, (kc.k C0 hc).down t, q1 (.bl false) O1 H1 f1 .refl dt_bl⟩
      · cases er'
    cases d with
    | obj C fs =>
      have er' : (if C ∈ cs ∧ C0 ∈ cs then some (D.bl (decide (C = C0))) else none) = some r := er
      split at er'
      · rename_i hc
        cases er'
        obtain ⟨a, dx, es, rfl, ea, _⟩ := lk_obj ld
        exact ⟨.ref a, .ref C0, _, _, decide (C = C0), rfl, .own _, (kc.k C hc.1).tyx ea, (kc.k C0 hc.2).one (b := true) (kc.ap C hc.1 C0 hc.2), q1 (.bl (decide (C = C0))) O1 H1 f1 .refl dt_bl⟩
      · cases er'
    | _ => exact other (fun _ _ z => nomatch z)
end
/-! ### fields -/
theorem dtFs_lookup {K : PySem.W.Frag} {O : Ow} {H : Hp} {f : Str} {d : D} : ∀ {fs : List (Str × D)} {es : List (Str × V)}, DtFs K O H fs es → fs.lookup f = some d → ∃ v, es.lookup f = some v ∧ Dt K O H d v
  | [], _, _, h => by cases h
  | (g, y) :: fs, _, q, h => by
    unfold DtFs at q
    obtain ⟨x, r, rfl, h1, h2⟩ := q
    rw [List.lookup_cons] at h ⊢
    cases e : f == g with
    | true => rw [e] at h; cases h; exact ⟨x, rfl, h1⟩
    | false => rw [e] at h; exact dtFs_lookup h2 h
theorem dtFs_len {K : PySem.W.Frag} {O : Ow} {H : Hp} : ∀ {fs : List (Str × D)} {es : List (Str × V)}, DtFs K O H fs es → fs.length = es.length
  | [], _, q => by unfold DtFs at q; subst q; rfl
  | (g, y) :: fs, _, q => by
    unfold DtFs at q
    obtain ⟨x, r, rfl, _, h2⟩ := q
    rw [List.length_cons, List.length_cons, dtFs_len h2]
theorem dtFs_none {K : PySem.W.Frag} {O : Ow} {H : Hp} {f : Str} : ∀ {fs : List (Str × D)} {es : List (Str × V)}, DtFs K O H fs es → fs.lookup f = none → es.lookup f = none
  | [], _, q, _ => by unfold DtFs at q; subst q; rfl
  | (g, y) :: fs, _, q, h => by
    unfold DtFs at q
    obtain ⟨x, r, rfl, h1, h2⟩ := q
    rw [List.lookup_cons] at h ⊢
    cases e : f == g with
    | true => rw [e] at h; cases h
    | false => rw [e] at h; exact dtFs_none h2 h
def putD (f : Str) (v : D) : List (Str × D) → List (Str × D)
  | [] => [(f, v)]
  | (g, x) :: r => if g = f then (g, v) :: r else (g, x) :: putD f v r
theorem dtFs_put {K : PySem.W.Frag} {O : Ow} {H : Hp} {f : Str} {d : D} {v : V} (hd : Dt K O H d v) : ∀ {fs : List (Str × D)} {es : List (Str × V)}, DtFs K O H fs es → DtFs K O H (putD f d fs) (L2.putF f v es)
  | [], _, q => by
    unfold DtFs at q
    subst q
    show DtFs K O H [(f, d)] [(f, v)]
    unfold DtFs
    exact ⟨v, [], rfl, hd, by unfold DtFs; rfl⟩
  | (g, y) :: fs, _, q => by
    unfold DtFs at q
    obtain ⟨x, r, rfl, h1, h2⟩ := q
    show DtFs K O H (if g = f then (g, d) :: fs else (g, y) :: putD f d fs) (if g = f then (g, v) :: r else (g, x) :: L2.putF f v r)
    split
    · unfold DtFs; exact ⟨v, r, rfl, hd, h2⟩
    · unfold DtFs; exact ⟨x, _, rfl, h1, dtFs_put hd h2⟩
def dFld (C : Addr) (f : Str) (d : D) : Option D := match d with
  | .obj C' fs => if C' = C then fs.lookup f else none
  | _ => none
def fldM (C : Addr) (f : Str) (m : Mo Pl) : Mo D := m >>= fun q => look q >>= fun d => Mo.lift (dFld C f d)
section
variable {X : Cx} {W : WX} {e v : Expr} {m : Mo Pl} {g : Mo D} {p pos : Pos} {f x : Str} {C : Addr} {i : Nat}
theorem dFld_some {d r : D} (h : dFld C f d = some r) : ∃ fs, d = .obj C fs ∧ fs.lookup f = some r := by
  cases d with
  | obj C' fs =>
    have h' : (if C' = C then fs.lookup f else none) = some r := h
    split at h'
    · rename_i e; subst e; exact ⟨fs, rfl, h'⟩
    · cases h'
  | _ => cases h
theorem se_fld (c : Cls X.K C) (na : NoAttr X.K C f) (he : PE X e (tP X.K W m)) (hb : attributeBase e f X.env (eval e X.env) = eval e X.env := by rfl) : PE X (.Attribute e f pos) (tE X.K W (fldM C f m)) := peI (pe_fld he hb) fun σ H Q q => by
  obtain ⟨φ, O, ρ, fm, q⟩ := q
  refine tX_mono (fin_bind (rel := rP X.K) fm q) fun u H1 ⟨O1, ρ1, p, f1, s1, r1, q1⟩ => ?_
  obtain ⟨d, ld, q1⟩ := fin_look f1 (rP_ok r1) q1
  obtain ⟨r, er, q2⟩ := fin_lift q1
  obtain ⟨fs, rfl, hl⟩ := dFld_some er
  obtain ⟨a, dx, es, rfl, ea, qf⟩ := lk_obj ld
  obtain ⟨w, hw, dw⟩ := dtFs_lookup qf hl
  exact ⟨a, C, dx, es, w, rfl, ea, c, na, hw, q2 w O1 H1 f1 .refl dw⟩
/-- self.f = v, within __init__ -/
def stFldR (i : Nat) (C : Addr) (f : Str) (d : D) (ρ : List Sl) : Option Sl → Rs Out
  | some (.iox j (.obj C' fs)) => if C' = C ∧ fs.length < 1000 then .ok .nx (ρ.set i (.iox j (.obj C (putD f d fs)))) else .no
  | _ => .no
def stFldM (i : Nat) (C : Addr) (f : Str) (g : Mo D) : Mo Out := g >>= fun d => fun ρ => stFldR i C f d ρ ρ[i]?
theorem ss_fld (i : Nat) (c : Cls X.K C) (na : NoAttr X.K C f) (hv : PE X v (tE X.K W g)) (hN : X.N[i]? = some x := by rfl) (hvis : Vis X.env.scope x := by first | exact Or.inl rfl | exact Or.inr (Or.inl rfl) | exact Or.inr (Or.inr rfl)) (hdb : (x == ("__debug__" : Str)) = false := by decide)
    (hcd : (x == ("__classdict__" : Str)) = false := by decide) (hs : swapsWith v (some (.Attribute (.Name x p) f pos)) pos'.line X.env = pure false := by rfl) : PS X (.Assign [.Attribute (.Name x p) f pos] v pos') (tS X.K W (stFldM i C f g)) := psI (ps_fld (pe_var (i := i) hN hvis hdb hcd) hv hs) fun Dn σ H q => by
  obtain ⟨φ, O, ρ, fm, q⟩ := q
  have q' : tX X.K W (rD X.K) g σ H (fun v H1 => ∃ O1 ρ1 a, Fm X.K φ O1 ρ1 σ H1 ∧ Stp O H O1 H1 ∧ rD X.K φ σ O1 H1 ρ1 a v ∧ sfin X.K W φ (fun ρ => stFldR i C f a ρ ρ[i]?) O1 ρ1 H1 σ Dn) := by
    refine ⟨φ, O, ρ, fm, ?_⟩
    unfold sfin at q
    rw [show stFldM i C f g ρ = (g ρ).thn (fun d ρ => stFldR i C f d ρ ρ[i]?) from bind_eq _ _ _] at q
    unfold fin
    cases hm : g ρ with
    | no => rw [hm] at q; exact q
    | ok d ρ1 =>
      rw [hm] at q
      intro w O1 H1 f1 s1 r1
      exact ⟨O1, ρ1, d, f1, s1, r1, sfin_step (σ0 := σ) s1 q⟩
    | ex e ρ1 =>
      rw [hm] at q
      intro cc dd O1 H1 f1 s1 xc
      exact q cc dd σ O1 H1 f1 s1 xc
  refine tX_mono q' fun y H1 ⟨O1, ρ1, d, f1, s1, r1, q1⟩ => ?_
  unfold sfin at q1
  dsimp only at q1
  cases es : ρ1[i]? with
  | none => rw [es] at q1; exact q1.elim
  | some t =>
    rw [es] at q1
    cases t with
    | iox j0 d0 =>
      cases d0 with
      | obj C' fs =>
        have e1 : stFldR i C f d ρ1 (some (.iox j0 (.obj C' fs))) = (if C' = C ∧ fs.length < 1000 then Rs.ok Out.nx (ρ1.set i (.iox j0 (.obj C (putD f d fs)))) else Rs.no) := rfl
        rw [e1] at q1
        by_cases hc : C' = C ∧ fs.length < 1000
        · rw [if_pos hc] at q1
          obtain ⟨rfl, hl⟩ := hc
          obtain ⟨a, ea, ev, oa, ow⟩ := f1.slot i _ es
          obtain ⟨dx, vs, ha, qf⟩ := ow
          refine ⟨.ref a, ev, a, C', dx, vs, rfl, ha, c, na, by rw [← dtFs_len qf]; exact hl, ?_⟩
          have dt : Dt X.K O1 H1 d y := r1
          have st : Stp O1 H1 O1 (upd H1 a (.ins C' dx (L2.putF f y vs))) := stp_mut oa
          have f2 := f1.mut (d' := .obj C' (putD f d fs)) (t := .iox j0 (.obj C' (putD f d fs))) es trivial ev (o := .ins C' dx (L2.putF f y vs)) ⟨dx, L2.putF f y vs, upd_same, dtFs_put (dt.step st) (by
            have gen : ∀ (fs : List (Str × D)) (vs : List (Str × V)), DtFs X.K O1 H1 fs vs → DtFs X.K O1 (upd H1 a (.ins C' dx (L2.putF f y vs))) fs vs := fun fs vs h => h.step (stp_mut oa)
            exact qf.step st)⟩ (.inr ⟨_, _, rfl, rfl⟩)
          exact q1 σ O1 _ f2 st
        · rw [if_neg hc] at q1; exact q1.elim
      | _ => exact q1.elim
    | _ => exact q1.elim
end
end VS

namespace VS
open PySem PySem.Spec PyProof.Rows L2
section
variable {prog : Program} {w : World} {A : Around} {E : Value → Shared → Prop} {s : Shared} {K : PySem.W.Frag} {x C L f : Addr} {h₀ : Heap} {m : Str → Option Value} {ox : Obj} {od : Option Obj} {name : Str} {b tb : Value}
/-- != where the class has == alone -/
theorem objNe_K {Q : Value → Shared → Prop} (hu : A.in1.units < cLine) (X : K.In s.heap) (I : PySem.W.InstAt s.heap x ox C od) (hm : PySem.W.mroIn K C (.type "object") = some true) (hs : PySem.W.findIn K (.ref C) "__eq__" = some (some (.ref f))) (hf : PySem.W.isFn K (.ref f) = true)
    (h : wpAny (model prog w) A.in1 (call (.ref f) [.ref x, b]) (fun v s' => ∃ c, v = .bool c ∧ Q (.bool (!c)) s') E s) : wpAny (model prog w) A (call (.builtin "object.__ne__") [.ref x, b]) Q E s := by
  refine wpAny_call (codeAny_call_builtin F.cmp_object.ne.plain F.cmpEntry_ne (PySem.W.check_slot (i := "object.__ne__") (owner := "object") (n := "__ne__") (by decide +kernel) (by decide +kernel) (I.type.andThen (PySem.W.looks_mroIn X hm)) (F.cmpArgs_ne _ _) ?_))
  unfold Builtin.«object.__ne__»
  repeat (first
    | with_reducible refine wpAny_cRoomFor hu ?_
    | (refine wpAny_bind (m := callSpecialIfBound? (.ref x) (Str.ofString "__eq__") [b])
        (PySem.W.ifBound_K X I hs hf (wpAny_mono h (fun r s' hr => by
          obtain ⟨c, rfl, hq⟩ := hr
          repeat (first | exact hq | exact wpAny_pure hq | exact wpAny_truthy_bool hq | (refine wpAny_bind (m := truthy (.bool _)) (wpAny_truthy_bool ?_)) | wp_step)) fun _ _ e => e)))
    | wp_step)
theorem ifBound_KB {M : Model} {A : Around} {id : String} {args : List Value} {Q : Option Value → Shared → Prop} (X : K.In s.heap) (I : PySem.W.InstAt s.heap x ox C od) (hs : PySem.W.findIn K (.ref C) name = some (some (.builtin id)))
    (hb : ∀ self, bindSpecial (.builtin id) self = pure (.builtin id, [self])) (h : wpAny M A (call (.builtin id) (.ref x :: args)) (fun v => Q (some v)) E s) : wpAny M A (callSpecialIfBound? (.ref x) name args) Q E s := by
  simp only [callSpecialIfBound?, bindSpecialIfBound?]
  refine wpAny_holding (wpAny_bind (wpAny_bind (wpAny_bind (I.type.here ((PySem.W.looks_findIn X hs).here ?_)))))
  refine wpAny_bind (wpAny_askSetting (wpAny_ite ?_))
  have fin : wpAny M A (call (.builtin id) ([.ref x] ++ args) >>= fun v => pure (some v)) Q E s := wpAny_bind (wpAny_mono h (fun v s' h' => wpAny_pure h') fun _ _ h' => h')
  split
  · exact wpAny_bind ((PySem.W.Looks.of_pure (hb _)).here (wpAny_pure (by exact fin)))
  · exact wpAny_tryCatch (wpAny_bind ((PySem.W.Looks.of_pure (hb _)).here (wpAny_pure (by exact fin))))
theorem ne_K {Q : Value → Shared → Prop} (hu : A.units + 2 < cLine) (X : K.In s.heap) (I : PySem.W.InstAt s.heap x ox C od) (hb : PySem.W.Looks (model prog w) s.heap (typeOf b) tb) (hn : PySem.W.notFirst K C tb = true) (hm : PySem.W.mroIn K C (.type "object") = some true)
    (hne : PySem.W.findIn K (.ref C) "__ne__" = some (some (.builtin "object.__ne__"))) (hs : PySem.W.findIn K (.ref C) "__eq__" = some (some (.ref f))) (hf : PySem.W.isFn K (.ref f) = true)
    (h : wpAny (model prog w) A.in1 (call (.ref f) [.ref x, b]) (fun v s' => ∃ c, v = .bool c ∧ Q (.bool (!c)) s') E s) : wpAny (model prog w) A (richCompare .NotEq (.ref x) b) Q E s := by
  have one : wpAny (model prog w) A (tryCompare (.ref x) (cmpInfo .NotEq).2.1 b) (fun r s' => ∃ v, r = some v ∧ Q v s') E s := by
    unfold tryCompare
    refine wpAny_bind (ifBound_KB X I (name := (cmpInfo .NotEq).2.1) hne PySem.F.cmp_object.ne.bind (objNe_K (by show A.units + 1 < cLine; omega) X I hm hs hf (wpAny_mono h (fun v s' hv => ?_) fun _ _ e => e)))
    obtain ⟨c, rfl, hq⟩ := hv
    exact ⟨c, rfl, wpAny_pure ⟨_, rfl, hq⟩⟩
  unfold richCompare
  simp only [oneThing_ref]
  refine wpAny_holding (wpAny_bind (wpAny_cRoomFor (by omega) ?_))
  refine wpAny_bind (I.type.here (wpAny_bind (hb.here ?_)))
  split
  · rename_i q
    have e : PySem.W.subIn K tb (.ref C) = some false := by
      rcases Bool.or_eq_true_iff.mp hn with e | e
      · rw [beq_iff_eq.mp e] at q; simp at q
      · exact beq_iff_eq.mp e
    refine wpAny_bind ((PySem.W.looks_subIn X e).here ?_)
    simp only [Bool.false_eq_true, if_false]
    refine wpAny_bind (wpAny_mono one (fun r s' z => ?_) fun _ _ e => e)
    obtain ⟨v, rfl, hq⟩ := z
    exact wpAny_pure hq
  · refine wpAny_bind (wpAny_pure ?_)
    simp only [Bool.false_eq_true, if_false]
    refine wpAny_bind (wpAny_mono one (fun r s' z => ?_) fun _ _ e => e)
    obtain ⟨v, rfl, hq⟩ := z
    exact wpAny_pure hq
end
/-! ### calls of own defs from within the machine -/
section
variable {X : Cx} {W : WX} {k : Nat} {f C : Addr} {fd : FuncData} {ps : List Str} {sp : Sp} {ds : List Value} {dvs : List V}
theorem run_at {A' : Around} {pins : List (Addr × Obj)} {σ : L2.St} {H : Hp} {s : Shared} {Q : VK} {us : List Value} {vs : List V} (F : FnG X.prog X.w X.K X.mg X.base k f fd ps sp) (tk : Takes X W) (gu : A'.guards = some []) (rm : Room k A') (fr : A'.frames = X.A.frames)
    (hb : Binds X.K fd ps ds) (hd : Vals dvs ds) (I : Inv X pins σ H s) (r : Vals vs us) (h : sp (vs ++ dvs) H Q (WE W σ)) : wpAny (model X.prog X.w) A' (call (.ref f) us) (EP X pins σ Q) X.xe s := by
  have r2 : Vals (vs ++ dvs) (us ++ ds) := r.append hd
  have many : (us ++ ds).length = ps.length := r2.length.symm.trans (F.ar _ _ _ _ h)
  have e0 : Env0 X.prog X.w X.K X.mg X.base A' X.stack s H := by
    have e := I.env0
    exact ⟨by rw [fr]; exact e.frames, e.mod, e.bs, e.bsz, e.funs, e.frf, e.hok, e.bare⟩
  refine wpAny_call (codeAny_mono (F.go A' X.stack s H ⟨us, []⟩ (us ++ ds) (vs ++ dvs) Q (WE W σ) (fun _ => gu) rm e0 (hb s us I.kIn many) r2 h) fun res s' z => ?_)
  cases res with
  | error e => exact passAt tk σ pins H s e s' I z
  | ok fl =>
    cases fl with
    | ret u => exact I.after z
    | next => exact z.elim
    | brk => exact z.elim
    | cont => exact z.elim
theorem make_guards {A : Around} {C : Addr} {us : List Value} {kw : List (Str × Value)} : (A.under (.builtin "type.__call__" ⟨.ref C :: us, kw⟩)).guards = A.guards := by
  first | rfl | simp [Around.under, Code.isGuard, guardIds] | (cases h : A.guards <;> simp [Around.under, Code.isGuard, guardIds, h])
theorem make_frames {A : Around} {C : Addr} {us : List Value} {kw : List (Str × Value)} : (A.under (.builtin "type.__call__" ⟨.ref C :: us, kw⟩)).frames = A.frames := by
  first | rfl | simp [Around.under, Code.envs, Code.isFrame, pushEnvs]
/-- C(..): a new instance -/
theorem run_makeG {pins : List (Addr × Obj)} {σ : L2.St} {H : Hp} {s : Shared} {Q : VK} {us : List Value} {vs : List V} (M : Mk X.K C f) (F : FnG X.prog X.w X.K X.mg X.base k f fd ps sp) (cn : Cn X W (k + 1)) (hb : Binds X.K fd ps ds) (hd : Vals dvs ds)
    (I : Inv X pins σ H s) (r : Vals vs us)
    (h : ∀ x dx, H x = none → H dx = none → dx ≠ x → sp (.ref x :: (vs ++ dvs)) (upd (upd H dx (.own x)) x (.ins C dx [])) (fun v H2 => v = .non ∧ Q (.ref x) H2) (WE W σ)) :
    wpAny (model X.prog X.w) X.A (call (.ref C) us) (EP X pins σ Q) X.xe s := by
  have hq := h (s.heap.objs.size + 1) s.heap.objs.size (I.hok.fresh (Nat.le_succ _)) (I.hok.fresh (Nat.le_refl _)) (Nat.ne_of_lt (Nat.lt_succ_self _))
  have I2 := Inv.made (C := C) I
  have r2 : Vals (V.ref (s.heap.objs.size + 1) :: (vs ++ dvs)) (Value.ref (s.heap.objs.size + 1) :: (us ++ ds)) := .cons rfl (r.append hd)
  have hl : (Value.ref (s.heap.objs.size + 1) :: us ++ ds).length = ps.length := by
    have e := r2.length
    rw [F.ar _ _ _ _ hq] at e
    exact e.symm
  refine wpAny_call (make_map (f := f) I.kIn M.makes M.init (beq_iff_eq.mp M.fn) (codeAny_mono (F.go _ X.stack _ _ ⟨Value.ref (s.heap.objs.size + 1) :: us, []⟩ (Value.ref (s.heap.objs.size + 1) :: (us ++ ds)) _ _ (WE W σ) (fun _ => make_guards.trans (cn.gu rfl)) (cn.rm.make C us [])
    (I2.env0.make C us []) (hb _ (Value.ref (s.heap.objs.size + 1) :: us) I2.kIn hl) r2 hq) fun r s' hq' => ?_))
  cases r with
  | error e => exact passAt cn.tk σ pins _ _ e s' I2 hq'
  | ok fl =>
    cases fl with
    | ret u =>
      obtain ⟨v, H', I3, rv, ev, q3⟩ := I2.after hq'
      subst ev
      exact ⟨rv, ⟨V.ref (s.heap.objs.size + 1), H', I3, rfl, q3⟩⟩
    | next => exact False.elim hq'
    | brk => exact False.elim hq'
    | cont => exact False.elim hq'
end
end VS

namespace VS
open PySem PySem.Spec PyProof.Rows L2
/-- the type's value of a datum -/
def tyV (cs : List Addr) (d : D) : Option Value := match d with
  | .obj C _ => if C ∈ cs then some (.ref C) else none
  | _ => (dTy d).map fun t => .type t.nm
section
variable {X : Cx} {W : WX} {pins : List (Addr × Obj)} {σ : L2.St} {H : Hp} {s : Shared} {O : Ow} {cs : List Addr} {C : Addr}
theorem type_of (kc : Klasses X.K cs) (I : Inv X pins σ H s) {d : D} {v : V} {u t : Value} (l : Lk X.K O H d v) (r : RelV v u) (e : tyV cs d = some t) : (∀ M, PySem.W.Looks M s.heap (typeOf u) t) ∧ ∀ C ∈ cs, PySem.W.notFirst X.K C t = true := by
  have go : ∀ {t : Value}, TyX X.K H v t → ∀ M, PySem.W.Looks M s.heap (typeOf u) t := fun ty M => by
    obtain ⟨P, Z, p, _⟩ := kit_of I r ty
    exact Z.ty M s.heap I.kIn p
  have other : (∀ C fs, d ≠ .obj C fs) → ∃ T : Ty, dTy d = some T ∧ t = .type T.nm := fun hno => by
    have e' : (dTy d).map (fun t => Value.type t.nm) = some t := by
      cases d with
      | obj C fs => exact absurd rfl (hno C fs)
      | _ => exact e
    cases et : dTy d with
    | none => rw [et] at e'; cases e'
    | some T => rw [et] at e'; cases e'; exact ⟨T, rfl, rfl⟩
  cases d with
  | obj C' fs =>
    have e' : (if C' ∈ cs then some (Value.ref C') else none) = some t := e
    split at e'
    · rename_i hc
      cases e'
      obtain ⟨a, dx, es, rfl, ea, _⟩ := lk_obj l
      refine ⟨go ((kc.k C' hc).tyx ea), fun C0 h0 => ?_⟩
      show (Value.ref C' == .ref C0 || PySem.W.subIn X.K (.ref C') (.ref C0) == some false) = true
      by_cases q : C' = C0
      · subst q; simp
      · rw [kc.ap C' hc C0 h0 q]; simp
    · cases e'
  | _ =>
    obtain ⟨T, eT, rfl⟩ := other (fun _ _ z => nomatch z)
    refine ⟨go (lk_ty l eT), fun C0 h0 => ?_⟩
    show (Value.type T.nm == .ref C0 || PySem.W.subIn X.K (.type T.nm) (.ref C0) == some false) = true
    rw [(kc.k C0 h0).dn T]
    simp
end
/-! ### methods, by class -/
abbrev KT := List (Addr × FF)
structure MthT (P : Program) (w : World) (K : PySem.W.Frag) (mg : Str → Option Value) (base : Heap) (j : Nat) (nm : Str) (n : Nat) (cs : List Addr) (t : KT) : Prop where
  to : ∀ C F, t.lookup C = some F → C ∈ cs ∧ ∃ (f : Addr) (fd : FuncData) (ps : List Str), ps.length = n ∧ FnG P w K mg base j f fd ps (SpF K false n F) ∧ PySem.W.findIn K (.ref C) nm = some (some (.ref f)) ∧ PySem.W.isFn K (.ref f) = true ∧ PySem.W.keepIn K (.ref f) = true ∧ Binds K fd ps []
section
variable {P : Program} {w : World} {K : PySem.W.Frag} {mg : Str → Option Value} {base : Heap} {j k n : Nat} {nm : Str} {cs : List Addr} {t : KT} {C f : Addr} {fd : FuncData} {ps : List Str} {F : FF}
theorem MthT.nil : MthT P w K mg base j nm n cs [] := ⟨fun C F h => by cases h⟩
theorem MthT.cons (r : MthT P w K mg base j nm n cs t) (hC : C ∈ cs) (Fn : FnG P w K mg base k f fd ps (SpF K false ps.length F)) (a : PySem.W.findIn K (.ref C) nm = some (some (.ref f))) (i : PySem.W.isFn K (.ref f) = true) (kp : PySem.W.keepIn K (.ref f) = true) (b : Binds K fd ps []) (hk : k ≤ j := by decide) (hn : ps.length = n := by rfl) :
    MthT P w K mg base j nm n cs ((C, F) :: t) := ⟨fun C' F' h => by
  rw [List.lookup_cons] at h
  by_cases e : C' = C
  · subst e
    rw [show (C' == C') = true by simp] at h
    cases h
    subst hn
    exact ⟨hC, f, fd, ps, rfl, Fn.up hk, a, i, kp, b⟩
  · rw [show (C' == C) = false by simpa using e] at h
    exact r.to C' F' h⟩
theorem MthT.up (m : MthT P w K mg base j nm n cs t) (h : j ≤ k) : MthT P w K mg base k nm n cs t := ⟨fun C F e => by
  obtain ⟨hC, f, fd, ps, h1, h2, r⟩ := m.to C F e
  exact ⟨hC, f, fd, ps, h1, h2.up h, r⟩⟩
end
/-! ### looking, and whether it is data -/
def lookBR (ρ : List Sl) : Option Sl → Rs (D × Bool)
  | some (.dat d) => .ok (d, true) ρ
  | some (.own d) => .ok (d, false) ρ
  | some (.iox _ d) => .ok (d, false) ρ
  | _ => .no
def lookB (p : Pl) : Mo (D × Bool) := fun ρ => match p with
  | .imm d => .ok (d, true) ρ
  | .slot i => lookBR ρ ρ[i]?
def LkB (K : PySem.W.Frag) (O : Ow) (H : Hp) (p : D × Bool) (v : V) : Prop := Lk K O H p.1 v ∧ (p.2 = true → Dt K O H p.1 v)
theorem fin_lookB {K : PySem.W.Frag} {W : WX} {φ : Fx} {O : Ow} {ρ : List Sl} {σ : L2.St} {H : Hp} {p : Pl} {v : V} {γ δ : Type} {rel2 : Rl γ δ} {k : D × Bool → Mo γ} {Q : δ → Hp → Prop} (f : Fm K φ O ρ σ H) (h : PlOk K σ O H p v) (q : fin K W rel2 φ (lookB p >>= k) σ O ρ H Q) :
    ∃ d, LkB K O H d v ∧ fin K W rel2 φ (k d) σ O ρ H Q := by
  cases p with
  | imm d => exact ⟨(d, true), ⟨Dt.lk h, fun _ => h⟩, q⟩
  | slot i =>
    have h' : σ[i]? = some (some v) := h
    unfold fin at q
    rw [bind_eq, show lookB (.slot i) ρ = lookBR ρ ρ[i]? from rfl] at q
    cases eq : ρ[i]? with
    | none => rw [eq] at q; exact q.elim
    | some s =>
      rw [eq] at q
      have z := f.slot i s eq
      cases s with
      | no => exact q.elim
      | dat d0 => obtain ⟨w, ev, z⟩ := z; rw [h'] at ev; cases ev; exact ⟨(d0, true), ⟨z.lk, fun _ => z⟩, q⟩
      | own d0 => obtain ⟨a, ev, _, _, z⟩ := z; rw [h'] at ev; cases ev; exact ⟨(d0, false), ⟨z.lk, fun z => by cases z⟩, q⟩
      | iox j d0 => obtain ⟨a, _, ev, _, z⟩ := z; rw [h'] at ev; cases ev; exact ⟨(d0, false), ⟨z.lk, fun z => by cases z⟩, q⟩
theorem LkB.step {K : PySem.W.Frag} {O : Ow} {H : Hp} {p : D × Bool} {v : V} (h : LkB K O H p v) : LkB K O H p v := h
/-- an operator on data, which may call own defs -/
abbrev G2 := D × Bool → D × Bool → Mo D
structure OpB (X : Cx) (W : WX) (f : Value → Value → Sem Value) (g : G2) : Prop where
  run : ∀ (pins : List (Addr × Obj)) (s : Shared) (σ : L2.St) (H : Hp) (φ : Fx) (O : Ow) (ρ : List Sl) (x y : V) (v u : Value) (d1 d2 : D × Bool) (Q : VK), Inv X pins σ H s → RelV x v → RelV y u → Fm X.K φ O ρ σ H → LkB X.K O H d1 x → LkB X.K O H d2 y →
    fin X.K W (rD X.K) φ (g d1 d2) σ O ρ H Q → wpAny (model X.prog X.w) X.A (f v u) (EP X pins σ Q) X.xe s
def opB (g : G2) (fa fb : Mo Pl) : Mo D := fa >>= fun p => fb >>= fun q => lookB p >>= fun x => lookB q >>= fun y => g x y
section
variable {X : Cx} {W : WX} {a b : Expr} {fa fb : Mo Pl} {g : G2} {pos : Pos}
theorem opB_two {f : Value → Value → Sem Value} (ho : OpB X W f g) (ha : PE X a (tP X.K W fa)) (hb : PE X b (tP X.K W fb)) {pins : List (Addr × Obj)} {s : Shared} {σ : L2.St} {H : Hp} {Q : VK} (I : Inv X pins σ H s) (h : tE X.K W (opB g fa fb) σ H Q) :
    wpAny (model X.prog X.w) X.A (eval a X.env) (fun v s1 => wpAny (model X.prog X.w) X.A (eval b X.env) (fun u s2 => wpAny (model X.prog X.w) X.A (f v u) (EP X pins σ Q) X.xe s2) X.xe s1) X.xe s := by
  obtain ⟨φ, O, ρ, fm, q⟩ := h
  refine thn (ha.run pins s σ H _ I (fin_bind (rel := rP X.K) fm q)) fun v s1 ⟨x, H1, I1, rx, O1, ρ1, p1, f1, s1', r1, q1⟩ => ?_
  refine thn (hb.run pins s1 σ H1 _ I1 (fin_bind (rel := rP X.K) f1 q1)) fun u s2 ⟨y, H2, I2, ry, O2, ρ2, p2, f2, s2', r2, q2⟩ => ?_
  obtain ⟨d1, l1, q2⟩ := fin_lookB f2 (pl_step s2' (rP_ok r1)) q2
  obtain ⟨d2, l2, q2⟩ := fin_lookB f2 (rP_ok r2) q2
  exact ho.run pins s2 σ H2 φ O2 ρ2 x y v u d1 d2 Q I2 rx ry f2 l1 l2 q2
theorem se_opB {op : Operator} (ho : OpB X W (binaryOp op) g) (ha : PE X a (tP X.K W fa)) (hb : PE X b (tP X.K W fb)) : PE X (.BinOp a op b pos) (tE X.K W (opB g fa fb)) := ⟨fun pins s σ H Q I h => wpAny_BinOp (opB_two ho ha hb I h)⟩
theorem se_cmpB {op : CmpOp} (ho : OpB X W (compareOp op) g) (ha : PE X a (tP X.K W fa)) (hb : PE X b (tP X.K W fb)) (hm : behindInMarks op b = false) : PE X (.Compare a [op] [b] pos) (tE X.K W (opB g fa fb)) := ⟨fun pins s σ H Q I h => wpAny_Compare1 (opB_two ho ha hb I h) hm⟩
theorem st_cmpB {op : CmpOp} (ho : OpB X W (compareOp op) g) (ha : PE X a (tP X.K W fa)) (hb : PE X b (tP X.K W fb)) (hm : behindInMarks op b = false) : PT X (.Compare a [op] [b] pos) (tT X.K W (testM (opB g fa fb))) := by
  refine ⟨fun pins s σ H Q I h => ?_⟩
  refine wpAny_isTrue_Compare1 (thn (opB_two ho ha hb I (tst2 h)) fun v s1 h1 => thn h1 fun u s2 h2 => thn h2 fun c s3 ⟨z, H3, I3, r3, k, e, q3⟩ => ?_) hm
  subst e
  cases r3
  exact wpAny_truthy_bool ⟨H3, I3, q3⟩
end
section
variable {X : Cx} {W : WX} {k j n : Nat} {cs : List Addr} {C f : Addr} {fd : FuncData} {ps : List Str} {F : FF} {nm : Str} {t : KT}
/-- a def is called with data, somewhere within an operation -/
theorem call_dat {A' : Around} {pins : List (Addr × Obj)} {σ : L2.St} {H : Hp} {s : Shared} {Q : VK} {us : List Value} {vs : List V} {ds : List D} {φ : Fx} {O : Ow} {ρ : List Sl} (Fn : FnG X.prog X.w X.K X.mg X.base k f fd ps (SpF X.K false n F)) (tk : Takes X W) (gu : A'.guards = some []) (rm : Room k A') (fr : A'.frames = X.A.frames) (hb : Binds X.K fd ps [])
    (I : Inv X pins σ H s) (r : Vals vs us) (hn : ds.length = n) (fm : Fm X.K φ O ρ σ H) (hd : DtAll X.K O H ds vs) (q : fin X.K W (rD X.K) φ (FoM (F none ds)) σ O ρ H Q) : wpAny (model X.prog X.w) A' (call (.ref f) us) (EP X pins σ Q) X.xe s :=
  run_at Fn tk gu rm fr hb (dvs := []) .nil I r (by rw [List.append_nil]; exact spf_call (rel := rD X.K) rfl hn fm hd q)
def eqV (neg : Bool) : D → Option D
  | .bl b => some (.bl (b ^^ neg))
  | _ => none
/-- x == y, by the class of x -/
def cmpB (cs : List Addr) (neg : Bool) (t : KT) : G2 := fun x y => match x.1 with
  | .obj C _ => match t.lookup C with
    | some F => bif x.2 && y.2 && (tyV cs y.1).isSome then FoM (F none [x.1, y.1]) >>= fun r => Mo.lift (eqV neg r) else (fun _ => .no)
    | none => fun _ => .no
  | _ => match y.1 with
    | .obj _ _ => fun _ => .no
    | _ => Mo.lift (if neg = true then dNe x.1 y.1 else dEq x.1 y.1)
theorem two_dt {K : PySem.W.Frag} {O : Ow} {H : Hp} {d1 d2 : D} {x y : V} (h1 : Dt K O H d1 x) (h2 : Dt K O H d2 y) : DtAll K O H [d1, d2] [x, y] := by
  unfold DtAll
  exact ⟨x, [y], rfl, h1, by unfold DtAll; exact ⟨y, [], rfl, h2, by unfold DtAll; rfl⟩⟩
/-- what comes of a call, then a step without the heap -/
theorem fin_then {K : PySem.W.Frag} {φ : Fx} {O : Ow} {ρ : List Sl} {σ : L2.St} {H : Hp} {m : Mo D} {h : D → Option D} {Q : VK} (q : fin K W (rD K) φ (m >>= fun r => Mo.lift (h r)) σ O ρ H Q) :
    fin K W (rD K) φ m σ O ρ H (fun v H1 => ∃ φ O1 ρ1 r r', Fm K φ O1 ρ1 σ H1 ∧ Dt K O1 H1 r v ∧ h r = some r' ∧ ∀ v' , (∀ O H, Dt K O H r' v') → Q v' H1) := by
  unfold fin at q ⊢
  rw [bind_eq] at q
  cases hm : m ρ with
  | no => rw [hm] at q; exact q
  | ex e ρ1 => rw [hm] at q; exact q
  | ok r ρ1 =>
    rw [hm] at q
    intro v O1 H1 f1 s1 r1
    have e2 : (Rs.ok r ρ1).thn (fun r => Mo.lift (h r)) = Mo.lift (h r) ρ1 := rfl
    rw [e2] at q
    cases e : h r with
    | none => rw [e] at q; exact q.elim
    | some r' =>
      rw [e] at q
      exact ⟨φ, O1, ρ1, r, r', f1, r1, e, fun v' dv => q v' O1 H1 f1 s1 (dv O1 H1)⟩
theorem opB_plain {f : Value → Value → Sem Value} {r : R2} {h : D → D → Option D} (ho : OpR X f r) (hr : RSem X.K r h) {pins : List (Addr × Obj)} {s : Shared} {σ : L2.St} {H : Hp} {φ : Fx} {O : Ow} {ρ : List Sl} {x y : V} {v u : Value} {d1 d2 : D × Bool} {Q : VK} (I : Inv X pins σ H s) (rx : RelV x v) (ry : RelV y u) (fm : Fm X.K φ O ρ σ H) (h1 : LkB X.K O H d1 x) (h2 : LkB X.K O H d2 y)
    (q : fin X.K W (rD X.K) φ (Mo.lift (h d1.1 d2.1)) σ O ρ H Q) : wpAny (model X.prog X.w) X.A (f v u) (EP X pins σ Q) X.xe s := by
  obtain ⟨d, e, q⟩ := fin_lift q
  exact ho pins s σ H x y v u Q I rx ry (hr O H x y d1.1 d2.1 d Q h1.1 h2.1 e fm.here fun v H3 ex dt => q v O H3 (fm.ext ex) ex.stp dt)
/-- the two ways of a comparison -/
theorem cmpB_cases {neg : Bool} {x y : D × Bool} (h : ∃ ρ, cmpB cs neg t x y ρ ≠ .no) : (∃ C fs F, x.1 = .obj C fs ∧ t.lookup C = some F ∧ x.2 = true ∧ y.2 = true ∧ (∃ tt, tyV cs y.1 = some tt) ∧ cmpB cs neg t x y = FoM (F none [x.1, y.1]) >>= fun r => Mo.lift (eqV neg r)) ∨
    cmpB cs neg t x y = Mo.lift (if neg = true then dNe x.1 y.1 else dEq x.1 y.1) := by
  obtain ⟨ρ, h⟩ := h
  obtain ⟨x, bx⟩ := x
  obtain ⟨y, by'⟩ := y
  cases x with
  | obj C fs =>
    have e : cmpB cs neg t (.obj C fs, bx) (y, by') = (match t.lookup C with
      | some F => bif bx && by' && (tyV cs y).isSome then FoM (F none [.obj C fs, y]) >>= fun r => Mo.lift (eqV neg r) else (fun _ => .no)
      | none => fun _ => .no) := rfl
    cases el : t.lookup C with
    | none => rw [e, el] at h; exact absurd rfl h
    | some F =>
      cases hb : (bx && by' && (tyV cs y).isSome) with
      | false =>
        rw [e, el] at h
        dsimp only at h
        rw [hb] at h
        exact absurd rfl h
      | true =>
        have hb' := hb
        rw [Bool.and_eq_true, Bool.and_eq_true] at hb'
        obtain ⟨tt, et⟩ := Option.isSome_iff_exists.mp hb'.2
        refine .inl ⟨C, fs, F, rfl, el, hb'.1.1, hb'.1.2, ⟨tt, et⟩, ?_⟩
        rw [e, el]
        dsimp only
        rw [hb]
        rfl
  | _ => cases y with
    | obj C fs => exact absurd rfl h
    | _ => exact .inr rfl
theorem fin_some {K : PySem.W.Frag} {φ : Fx} {O : Ow} {ρ : List Sl} {σ : L2.St} {H : Hp} {m : Mo D} {Q : VK} (q : fin K W (rD K) φ m σ O ρ H Q) : ∃ ρ, m ρ ≠ .no := ⟨ρ, fun e => by unfold fin at q; rw [e] at q; exact q⟩
theorem op_eqK (kc : Klasses X.K cs) (m : MthT X.prog X.w X.K X.mg X.base j "__eq__" 2 cs t) (cn : Cn X W k) (hj : j ≤ k := by decide) : OpB X W (compareOp .Eq) (cmpB cs false t) := ⟨fun pins s σ H φ O ρ x y v u d1 d2 Q I rx ry fm h1 h2 q => by
  rcases cmpB_cases (fin_some q) with ⟨C, fs, F, e1, el, b1, b2, ⟨tt, et⟩, eq⟩ | eq
  · rw [eq] at q
    obtain ⟨d1, bb1⟩ := d1
    obtain ⟨d2, bb2⟩ := d2
    dsimp only at e1 b1 b2 et q
    subst e1
    have dt1 := h1.2 b1
    have dt2 := h2.2 b2
    obtain ⟨hC, f, fd, ps, hp, Fn, at', isf, kp, bd⟩ := (m.up hj).to C F el
    obtain ⟨lt, nf⟩ := type_of kc I h2.1 ry et
    obtain ⟨a, dx, es, rfl, ea, _⟩ := lk_obj h1.1
    cases (show v = Value.ref a from rx)
    obtain ⟨mA, J, _⟩ := ins_get I.hok ea
    obtain ⟨od, J, _⟩ := J.look
    obtain ⟨m', hF⟩ := I.fr
    show wpAny _ _ (richCompare .Eq (.ref a) u) _ _ _
    refine PySem.W.cmp_K (op := .Eq) (tb := tt) (Room.units0 cn.rm) hF I.ok.mod.kin J (lt _) (nf _ hC) at' isf ?_
    refine wpAny_mono (call_dat (us := [.ref a, u]) (vs := [.ref a, y]) Fn cn.tk (cn.gu rfl) cn.rm rfl bd I (.cons rfl (.cons ry .nil)) rfl fm (two_dt dt1 dt2) (fin_then q)) (fun r s' hr => ?_) fun _ _ z => z
    obtain ⟨z, H1, I1, rz, φ1, O1, ρ1, d, d', f1, dz, ed, q1⟩ := hr
    cases d with
    | bl c =>
      cases ed
      have ez : z = .bl c := by unfold Dt at dz; exact dz
      subst ez
      cases (show r = Value.bool c from rz)
      exact ⟨.bl c, H1, I1, rfl, q1 (.bl c) fun _ _ => by rw [Bool.xor_false]; exact dt_bl⟩
    | _ => cases ed
  · rw [eq] at q
    exact opB_plain (op_eqC cn) sem_eq I rx ry fm h1 h2 q⟩
structure NeT (K : PySem.W.Frag) (cs : List Addr) : Prop where
  to : ∀ C ∈ cs, PySem.W.findIn K (.ref C) "__ne__" = some (some (.builtin "object.__ne__"))
theorem op_neK (kc : Klasses X.K cs) (m : MthT X.prog X.w X.K X.mg X.base j "__eq__" 2 cs t) (hne : NeT X.K cs) (cn : Cn X W k) (hj : j + 1 ≤ k := by decide) : OpB X W (compareOp .NotEq) (cmpB cs true t) := ⟨fun pins s σ H φ O ρ x y v u d1 d2 Q I rx ry fm h1 h2 q => by
  rcases cmpB_cases (fin_some q) with ⟨C, fs, F, e1, el, b1, b2, ⟨tt, et⟩, eq⟩ | eq
  · rw [eq] at q
    obtain ⟨d1, bb1⟩ := d1
    obtain ⟨d2, bb2⟩ := d2
    dsimp only at e1 b1 b2 et q
    subst e1
    have dt1 := h1.2 b1
    have dt2 := h2.2 b2
    obtain ⟨hC, f, fd, ps, hp, Fn, at', isf, kp, bd⟩ := m.to C F el
    obtain ⟨lt, nf⟩ := type_of kc I h2.1 ry et
    obtain ⟨a, dx, es, rfl, ea, _⟩ := lk_obj h1.1
    cases (show v = Value.ref a from rx)
    obtain ⟨mA, J, _⟩ := ins_get I.hok ea
    obtain ⟨od, J, _⟩ := J.look
    show wpAny _ _ (richCompare .NotEq (.ref a) u) _ _ _
    refine ne_K (by have := Room.units cn.rm; omega) I.kIn J (lt _) (nf _ hC) (kc.k _ hC).hm (hne.to C hC) at' isf ?_
    refine wpAny_mono (call_dat (us := [.ref a, u]) (vs := [.ref a, y]) Fn cn.tk (cn.gu rfl) (A' := X.A.in1) (Room.in1 (cn.rm.mono hj)) rfl bd I (.cons rfl (.cons ry .nil)) rfl fm (two_dt dt1 dt2) (fin_then q)) (fun r s' hr => ?_) fun _ _ z => z
    obtain ⟨z, H1, I1, rz, φ1, O1, ρ1, d, d', f1, dz, ed, q1⟩ := hr
    cases d with
    | bl c =>
      cases ed
      have ez : z = .bl c := by unfold Dt at dz; exact dz
      subst ez
      cases (show r = Value.bool c from rz)
      exact ⟨c, rfl, .bl (!c), H1, I1, rfl, q1 (.bl (!c)) fun _ _ => by rw [Bool.xor_true]; exact dt_bl⟩
    | _ => cases ed
  · rw [eq] at q
    exact opB_plain (op_neC cn) sem_ne I rx ry fm h1 h2 q⟩
/-! ### x in y, by the class of y -/
def inB (neg : Bool) (t : KT) : G2 := fun x y => match y.1 with
  | .obj C _ => match t.lookup C with
    | some F => bif x.2 && y.2 then FoM (F none [y.1, x.1]) >>= fun r => Mo.lift (eqV neg r) else (fun _ => .no)
    | none => fun _ => .no
  | _ => Mo.lift (if neg = true then dNotIn x.1 y.1 else dIn x.1 y.1)
theorem inB_cases {neg : Bool} {x y : D × Bool} (h : ∃ ρ, inB neg t x y ρ ≠ .no) : (∃ C fs F, y.1 = .obj C fs ∧ t.lookup C = some F ∧ x.2 = true ∧ y.2 = true ∧ inB neg t x y = FoM (F none [y.1, x.1]) >>= fun r => Mo.lift (eqV neg r)) ∨
    inB neg t x y = Mo.lift (if neg = true then dNotIn x.1 y.1 else dIn x.1 y.1) := by
  obtain ⟨ρ, h⟩ := h
  obtain ⟨x, bx⟩ := x
  obtain ⟨y, by'⟩ := y
  cases y with
  | obj C fs =>
    have e : inB neg t (x, bx) (.obj C fs, by') = (match t.lookup C with
      | some F => bif bx && by' then FoM (F none [.obj C fs, x]) >>= fun r => Mo.lift (eqV neg r) else (fun _ => .no)
      | none => fun _ => .no) := rfl
    cases el : t.lookup C with
    | none => rw [e, el] at h; exact absurd rfl h
    | some F =>
      cases hb : (bx && by') with
      | false =>
        rw [e, el] at h
        dsimp only at h
        rw [hb] at h
        exact absurd rfl h
      | true =>
        have hb' := hb
        rw [Bool.and_eq_true] at hb'
        refine .inl ⟨C, fs, F, rfl, el, hb'.1, hb'.2, ?_⟩
        rw [e, el]
        dsimp only
        rw [hb]
        rfl
  | _ => exact .inr rfl
theorem op_inK (m : MthT X.prog X.w X.K X.mg X.base j "__contains__" 2 cs t) (cn : Cn X W k) (hj : j ≤ k := by decide) : OpB X W (compareOp .In) (inB false t) := ⟨fun pins s σ H φ O ρ x y v u d1 d2 Q I rx ry fm h1 h2 q => by
  rcases inB_cases (fin_some q) with ⟨C, fs, F, e1, el, b1, b2, eq⟩ | eq
  · rw [eq] at q
    obtain ⟨d1, bb1⟩ := d1
    obtain ⟨d2, bb2⟩ := d2
    dsimp only at e1 b1 b2 q
    subst e1
    have dt1 := h1.2 b1
    have dt2 := h2.2 b2
    obtain ⟨hC, f, fd, ps, hp, Fn, at', isf, kp, bd⟩ := (m.up hj).to C F el
    obtain ⟨a, dx, es, rfl, ea, _⟩ := lk_obj h2.1
    cases (show u = Value.ref a from ry)
    obtain ⟨mA, J, _⟩ := ins_get I.hok ea
    obtain ⟨od, J, _⟩ := J.look
    obtain ⟨m', hF⟩ := I.fr
    refine PySem.W.in_K hF I.ok.mod.kin J at' isf ?_
    refine wpAny_mono (call_dat (us := [.ref a, v]) (vs := [.ref a, x]) Fn cn.tk (cn.gu rfl) cn.rm rfl bd I (.cons rfl (.cons rx .nil)) rfl fm (two_dt dt2 dt1) (fin_then q)) (fun r s' hr => ?_) fun _ _ z => z
    obtain ⟨z, H1, I1, rz, φ1, O1, ρ1, d, d', f1, dz, ed, q1⟩ := hr
    cases d with
    | bl c =>
      cases ed
      have ez : z = .bl c := by unfold Dt at dz; exact dz
      subst ez
      cases (show r = Value.bool c from rz)
      exact wpAny_truthy_bool ⟨.bl c, H1, I1, rfl, q1 (.bl c) fun _ _ => by rw [Bool.xor_false]; exact dt_bl⟩
    | _ => cases ed
  · rw [eq] at q
    exact opB_plain (op_inA cn) sem_in I rx ry fm h1 h2 q⟩
theorem op_notInK (m : MthT X.prog X.w X.K X.mg X.base j "__contains__" 2 cs t) (cn : Cn X W k) (hj : j ≤ k := by decide) : OpB X W (compareOp .NotIn) (inB true t) := ⟨fun pins s σ H φ O ρ x y v u d1 d2 Q I rx ry fm h1 h2 q => by
  rcases inB_cases (fin_some q) with ⟨C, fs, F, e1, el, b1, b2, eq⟩ | eq
  · rw [eq] at q
    obtain ⟨d1, bb1⟩ := d1
    obtain ⟨d2, bb2⟩ := d2
    dsimp only at e1 b1 b2 q
    subst e1
    have dt1 := h1.2 b1
    have dt2 := h2.2 b2
    obtain ⟨hC, f, fd, ps, hp, Fn, at', isf, kp, bd⟩ := (m.up hj).to C F el
    obtain ⟨a, dx, es, rfl, ea, _⟩ := lk_obj h2.1
    cases (show u = Value.ref a from ry)
    obtain ⟨mA, J, _⟩ := ins_get I.hok ea
    obtain ⟨od, J, _⟩ := J.look
    obtain ⟨m', hF⟩ := I.fr
    refine PySem.W.notIn_K hF I.ok.mod.kin J at' isf ?_
    refine wpAny_mono (call_dat (us := [.ref a, v]) (vs := [.ref a, x]) Fn cn.tk (cn.gu rfl) cn.rm rfl bd I (.cons rfl (.cons rx .nil)) rfl fm (two_dt dt2 dt1) (fin_then q)) (fun r s' hr => ?_) fun _ _ z => z
    obtain ⟨z, H1, I1, rz, φ1, O1, ρ1, d, d', f1, dz, ed, q1⟩ := hr
    cases d with
    | bl c =>
      cases ed
      have ez : z = .bl c := by unfold Dt at dz; exact dz
      subst ez
      cases (show r = Value.bool c from rz)
      exact wpAny_truthy_bool ⟨.bl (!c), H1, I1, rfl, q1 (.bl (!c)) fun _ _ => by rw [Bool.xor_true]; exact dt_bl⟩
    | _ => cases ed
  · rw [eq] at q
    exact opB_plain (op_notInA cn) sem_notIn I rx ry fm h1 h2 q⟩
/-! ### x & y, both of one class -/
theorem relV_ni {z : V} (h : L2.RelV z .notImplemented) : False := by
  cases z <;> simp [L2.RelV] at h
structure SfT (K : PySem.W.Frag) (cs : List Addr) : Prop where
  to : ∀ C ∈ cs, PySem.W.selfFirst K C = true
def binB (t : KT) (h : D → D → Option D) : G2 := fun x y => match x.1 with
  | .obj C _ => match y.1 with
    | .obj C2 _ => match t.lookup C with
      | some F => bif x.2 && y.2 && (C == C2) then FoM (F none [x.1, y.1]) else (fun _ => .no)
      | none => fun _ => .no
    | _ => fun _ => .no
  | _ => Mo.lift (h x.1 y.1)
theorem op_binK {op : Operator} {r : R2} {h : D → D → Option D} (sf : SfT X.K cs) (m : MthT X.prog X.w X.K X.mg X.base j (PySem.dunder op.info.2) 2 cs t) (ho : OpR X (binaryOp op) r) (hr : RSem X.K r h) (kc : Klasses X.K cs) (cn : Cn X W k) (hj : j ≤ k := by decide) : OpB X W (binaryOp op) (binB t h) := ⟨fun pins s σ H φ O ρ x y v u d1 d2 Q I rx ry fm h1 h2 q => by
  obtain ⟨d1, b1⟩ := d1
  obtain ⟨d2, b2⟩ := d2
  have plain : (∀ C fs, d1 ≠ .obj C fs) → wpAny (model X.prog X.w) X.A (binaryOp op v u) (EP X pins σ Q) X.xe s := fun hno => by
    have e : binB t h (d1, b1) (d2, b2) = Mo.lift (h d1 d2) := by
      cases d1 with
      | obj C fs => exact absurd rfl (hno C fs)
      | _ => rfl
    rw [e] at q
    exact opB_plain ho hr I rx ry fm h1 h2 q
  cases d1 with
  | obj C fs =>
    cases d2 with
    | obj C2 fs2 =>
      have e : binB t h (.obj C fs, b1) (.obj C2 fs2, b2) = (match t.lookup C with
        | some F => bif b1 && b2 && (C == C2) then FoM (F none [.obj C fs, .obj C2 fs2]) else (fun _ => .no)
        | none => fun _ => .no) := rfl
      rw [e] at q
      cases el : t.lookup C with
      | none => rw [el] at q; exact q.elim
      | some F =>
        rw [el] at q
        cases hb : (b1 && b2 && (C == C2)) with
        | false =>
          dsimp only at q
          rw [hb] at q; exact q.elim
        | true =>
          dsimp only at q
          rw [hb] at q
          rw [Bool.and_eq_true, Bool.and_eq_true] at hb
          have hc : C = C2 := by simpa using hb.2
          subst hc
          have dt1 := h1.2 hb.1.1
          have dt2 := h2.2 hb.1.2
          obtain ⟨hC, f, fd, ps, hp, Fn, at', isf, kp, bd⟩ := (m.up hj).to C F el
          have et : tyV cs (.obj C fs2) = some (.ref C) := by show (if C ∈ cs then some (Value.ref C) else none) = _; rw [if_pos hC]
          obtain ⟨lt, nf⟩ := type_of kc I h2.1 ry et
          obtain ⟨a, dx, es, rfl, ea, _⟩ := lk_obj h1.1
          cases (show v = Value.ref a from rx)
          obtain ⟨mA, J, _⟩ := ins_get I.hok ea
          obtain ⟨od, J, _⟩ := J.look
          obtain ⟨m', hF⟩ := I.fr
          refine PySem.W.binop_K hF I.ok.mod.kin J (lt _) (sf.to C hC) at' isf ?_
          refine wpAny_mono (call_dat (us := [.ref a, u]) (vs := [.ref a, y]) Fn cn.tk (cn.gu rfl) cn.rm rfl bd I (.cons rfl (.cons ry .nil)) rfl fm (two_dt dt1 dt2) q) (fun r s' hr => ?_) fun _ _ z => z
          obtain ⟨z, H1, I1, rz, q1⟩ := hr
          cases r with
          | notImplemented => exact (relV_ni rz).elim
          | _ => exact ⟨z, H1, I1, rz, q1⟩
    | _ => exact q.elim
  | _ => exact plain (fun _ _ z => nomatch z)⟩
end
end VS

namespace PySem.W
open PySem PySem.Spec PySem.Calls PyProof.Rows
section
variable {prog : Program} {w : World} {A : Around} {E : Value → Shared → Prop} {s : Shared}
/-- bool(x), by x's truth -/
theorem bool_of {x : Value} {Q : Value → Shared → Prop} (h : wpAny (model prog w) A.in1.in1 (truthy x) (fun b s' => Q (.bool b) s') E s) : wpAny (model prog w) A (call (.type "bool") [x]) Q E s := by
  refine callType_codes (T := "bool") (Bi := Builtin.«object.__init__») (Q₁ := fun r s₁ => ∃ b, r = .bool b ∧ Q r s₁) PySem.F.called_bool (PySem.F.typeCall_bool_1 _) PySem.F.entry_object_init ?_ ?_
  · refine codeAny_of_tree ?_
    show wpAny _ A.in1.in1 (do checkBuiltinCall "bool.__new__" ⟨[.type "bool", x], []⟩; again (.builtin "bool.__new__" ⟨[.type "bool", x], []⟩)) _ _ s
    refine wpAny_bind (wpAny_of_eq (PySem.F.newCall_bool_1 _) (wpAny_pure ⟨plainId_quiet (by decide +kernel) _, codeAny_builtin PySem.F.entry_bool_new ?_⟩))
    rw [Around.under_plainId (by decide +kernel) _]
    have f1 := PySem.F.conv_sub_bool
    unfold Builtin.«bool.__new__»
    obtain ⟨hp, g, d, tk, os⟩ := s
    repeat (any_goals (first | assumption | (with_reducible refine wpAny_bind (m := truthy x) ?_) | wp_step))
    all_goals first
      | exact wpAny_mono h (fun b s' q => wpAny_pure ⟨b, rfl, q⟩) fun _ _ z => z
      | skip
  · rintro obj s₁ ⟨b, rfl, hq⟩
    exact ⟨typeIs_bool _ _, PySem.F.args_object_init_2 _ _, object_init_meets PySem.F.called_bool.init.lookup PySem.F.called_bool.made (by decide) prog w A.in1 _ s₁ ⟨typeIs_bool _ _, rfl, hq⟩⟩
end
end PySem.W
namespace VS
open PySem PySem.Spec PyProof.Rows L2
/-- what a def gives that raises nothing -/
def foN : Fo → Option D
  | .ok r _ => some r
  | _ => none
section
variable {X : Cx} {k j n : Nat} {cs : List Addr} {C f : Addr} {fd : FuncData} {ps : List Str} {F : FF} {nm : Str}
theorem spf_pure {K : PySem.W.Frag} {φ : Fx} {O : Ow} {ρ : List Sl} {σ : L2.St} {H : Hp} {ds : List D} {vs : List V} {r : D} (h : foN (F none ds) = some r) (hn : ds.length = n) (fm : Fm K φ O ρ σ H) (hd : DtAll K O H ds vs) :
    SpF K false n F vs H (fun v H' => Fm K φ O ρ σ H' ∧ Ext H H' ∧ Dt K O H' r v) (fun _ _ _ => False) := by
  refine ⟨O, none, none, ds, vs, rfl, by rw [← hn, dtAll_len hd], fm.here, trivial, hd, ?_⟩
  cases e : F none ds with
  | no => rw [e] at h; cases h
  | ex x io' => rw [e] at h; cases h
  | ok r' io' =>
    rw [e] at h
    cases h
    intro v H' kp io dt
    have ex : Ext H H' := fun b o h => kp b o (fun z => by cases z) h
    rw [if_neg (by decide)] at dt
    exact ⟨fm.ext ex, ex, dt⟩
theorem call_pure {A' : Around} {pins : List (Addr × Obj)} {σ : L2.St} {H : Hp} {s : Shared} {us : List Value} {vs : List V} {ds : List D} {φ : Fx} {O : Ow} {ρ : List Sl} {r : D} (Fn : FnG X.prog X.w X.K X.mg X.base k f fd ps (SpF X.K false n F)) (gu : A'.guards = some []) (rm : Room k A') (fr : A'.frames = X.A.frames) (hb : Binds X.K fd ps [])
    (I : Inv X pins σ H s) (rv : Vals vs us) (hn : ds.length = n) (fm : Fm X.K φ O ρ σ H) (hd : DtAll X.K O H ds vs) (h : foN (F none ds) = some r) :
    wpAny (model X.prog X.w) A' (call (.ref f) us) (fun u s' => ∃ v H', RelV v u ∧ Inv X pins σ H' s' ∧ Fm X.K φ O ρ σ H' ∧ Ext H H' ∧ Dt X.K O H' r v) X.xe s := by
  refine wpAny_mono (run_at (W := W0) (Q := fun v H' => Fm X.K φ O ρ σ H' ∧ Ext H H' ∧ Dt X.K O H' r v) Fn takes0 gu rm fr hb (dvs := []) .nil I rv (by rw [List.append_nil]; exact spf_pure h hn fm hd)) (fun u s' z => ?_) fun _ _ z => z
  obtain ⟨v, H', J, rv', q⟩ := z
  exact ⟨v, H', rv', J, q⟩
end
theorem two_dt1 {K : PySem.W.Frag} {O : Ow} {H : Hp} {d1 : D} {x : V} (h1 : Dt K O H d1 x) : DtAll K O H [d1] [x] := by
  unfold DtAll
  exact ⟨x, [], rfl, h1, by unfold DtAll; rfl⟩
/-- a built-in function of one datum -/
structure CallB (X : Cx) (f : Value) (h : D × Bool → Option D) : Prop where
  run : ∀ (pins : List (Addr × Obj)) (s : Shared) (σ : L2.St) (H : Hp) (φ : Fx) (O : Ow) (ρ : List Sl) (v : V) (u : Value) (d : D × Bool) (r : D) (Q : VK), Inv X pins σ H s → RelV v u → Fm X.K φ O ρ σ H → LkB X.K O H d v → h d = some r →
    (∀ v' H', Fm X.K φ O ρ σ H' → Ext H H' → Dt X.K O H' r v' → Q v' H') → wpAny (model X.prog X.w) X.A (call f [u]) (EP X pins σ Q) X.xe s
theorem callB_plain {X : Cx} {f : Value} {r : List V → Hp → VK → Prop} {h : List D → Option D} (hc : CallR X f r) (hs : CSem X.K r h) : CallB X f (fun d => h [d.1]) := ⟨fun pins s σ H φ O ρ v u d x Q I rv fm dt e q =>
  hc pins s σ H [v] [u] Q I (.cons rv .nil) (hs O H [v] [d.1] x Q ⟨v, [], rfl, dt.1, rfl⟩ e fm.here fun v' H' ex dt' => q v' H' (fm.ext ex) ex dt')⟩
def b1M (h : D × Bool → Option D) (f : Mo Pl) : Mo D := f >>= fun p => lookB p >>= fun x => Mo.lift (h x)
section
variable {X : Cx} {W : WX} {e : Expr} {fe : Mo Pl} {h : D × Bool → Option D} {x : Str} {p pos : Pos} {id T : String}
theorem b1_arg {t : TE} (he : PE X e t) (hst : starEach [e] X.env = (false, eval e X.env) :: starEach [] X.env := by rfl) : PA X [e] (fun σ H Q => t σ H fun v H1 => Q [v] H1) := by
  have h := pa_cons he pa_nil hst
  exact paI h fun σ H Q q => q
theorem b1_ok {f : Value} (hc : CallB X f h) {pins : List (Addr × Obj)} {s : Shared} {σ : L2.St} {H : Hp} {Q : VK} {v : V} {u : Value} (I : Inv X pins σ H s) (r : RelV v u)
    (q : ∃ φ O ρ p, Fm X.K φ O ρ σ H ∧ PlOk X.K σ O H p v ∧ fin X.K W (rD X.K) φ (lookB p >>= fun x => Mo.lift (h x)) σ O ρ H Q) : wpAny (model X.prog X.w) X.A (call f [u]) (EP X pins σ Q) X.xe s := by
  obtain ⟨φ, O, ρ, p, fm, dt, q⟩ := q
  obtain ⟨d, l, q⟩ := fin_lookB fm dt q
  obtain ⟨r', e, q⟩ := fin_lift q
  exact hc.run pins s σ H φ O ρ v u d r' Q I r fm l e fun v' H' f' ex dt' => q v' O H' f' ex.stp dt'
theorem se_b1 (hc : CallB X (.builtin id) h) (he : PE X e (tP X.K W fe)) (hm : X.mg x = none) (hv : bootBuiltins x = some (.builtin id) := by decide +kernel) (hg : Gl X x := by rfl) (hn : x ≠ "__name__" := by decide) (hdb : (x == ("__debug__" : Str)) = false := by decide)
    (hst : starEach [e] X.env = (false, eval e X.env) :: starEach [] X.env := by rfl) : PE X (.Call (.Name x p) [e] [] pos) (tE X.K W (b1M h fe)) := by
  refine ⟨fun pins s σ H Q I q => ?_⟩
  obtain ⟨φ, O, ρ, fm, q⟩ := q
  refine wpAny_Call_Name_kw (ld_blt I hg hm hv ?_ hn hdb)
  refine PyProof.Rows.callWith_builtin1 (thn ((b1_arg he hst).run pos pins s σ H (fun vs H1 => ∃ v, vs = [v] ∧ ∃ φ O ρ p, Fm X.K φ O ρ σ H1 ∧ PlOk X.K σ O H1 p v ∧ fin X.K W (rD X.K) φ (lookB p >>= fun x => Mo.lift (h x)) σ O ρ H1 Q) I (tX_mono (fin_bind (rel := rP X.K) fm q) fun v H1 ⟨O1, ρ1, d, f1, s1, r1, q1⟩ => ⟨v, rfl, φ, O1, ρ1, d, f1, rP_ok r1, q1⟩)) fun us s1 ⟨vs, H1, I1, r1, q1⟩ => ?_) hst rfl
  obtain ⟨v, rfl, q1⟩ := q1
  cases r1 with
  | cons r t => cases t; exact b1_ok hc I1 r q1
theorem se_b1T (hc : CallB X (.type T) h) (he : PE X e (tP X.K W fe)) (hm : X.mg x = none) (hv : bootBuiltins x = some (.type T) := by decide +kernel) (hg : Gl X x := by rfl) (hn : x ≠ "__name__" := by decide) (hdb : (x == ("__debug__" : Str)) = false := by decide)
    (hst : starEach [e] X.env = (false, eval e X.env) :: starEach [] X.env := by rfl) : PE X (.Call (.Name x p) [e] [] pos) (tE X.K W (b1M h fe)) := by
  refine ⟨fun pins s σ H Q I q => ?_⟩
  obtain ⟨φ, O, ρ, fm, q⟩ := q
  refine wpAny_Call_Name_kw (ld_blt I hg hm hv ?_ hn hdb)
  refine PyProof.Rows.callWith_type1 (thn ((b1_arg he hst).run pos pins s σ H (fun vs H1 => ∃ v, vs = [v] ∧ ∃ φ O ρ p, Fm X.K φ O ρ σ H1 ∧ PlOk X.K σ O H1 p v ∧ fin X.K W (rD X.K) φ (lookB p >>= fun x => Mo.lift (h x)) σ O ρ H1 Q) I (tX_mono (fin_bind (rel := rP X.K) fm q) fun v H1 ⟨O1, ρ1, d, f1, s1, r1, q1⟩ => ⟨v, rfl, φ, O1, ρ1, d, f1, rP_ok r1, q1⟩)) fun us s1 ⟨vs, H1, I1, r1, q1⟩ => ?_) hst rfl
  obtain ⟨v, rfl, q1⟩ := q1
  cases r1 with
  | cons r t => cases t; exact b1_ok hc I1 r q1
end
/-! len, bool, str of instances -/
def lenV : D → Option D
  | .int n => if 0 ≤ n ∧ n < 2 ^ 63 then some (.int n) else none
  | _ => none
def strV : D → Option D
  | .str x => some (.str x)
  | _ => none
def boolV : D → Option Bool
  | .bl b => some b
  | _ => none
def lenB (t : KT) (x : D × Bool) : Option D := match x.1 with
  | .obj C _ => (t.lookup C).bind fun F => bif x.2 then (foN (F none [x.1])).bind lenV else none
  | .dct kvs => some (.int kvs.length)
  | _ => dLen [x.1]
/-- truth, by class -/
def truD : D → Option Bool
  | .dct kvs => some (!kvs.isEmpty)
  | d => dTru d
def truB (t : KT) (x : D × Bool) : Option Bool := match x.1 with
  | .obj C _ => (t.lookup C).bind fun F => bif x.2 then (foN (F none [x.1])).bind boolV else none
  | _ => truD x.1
def boolB (t : KT) (x : D × Bool) : Option D := (truB t x).map .bl
def dStr : D → Option D
  | .int i => if i.natAbs.log2 < 1920 then some (.str (toString i)) else none
  | .str x => some (.str x)
  | _ => none
def strB (t : KT) (x : D × Bool) : Option D := match x.1 with
  | .obj C _ => (t.lookup C).bind fun F => bif x.2 then (foN (F none [x.1])).bind strV else none
  | _ => dStr x.1
section
variable {X : Cx} {W : WX} {k j : Nat} {cs : List Addr} {t : KT} {C f : Addr} {fd : FuncData} {ps : List Str} {F : FF} {nm : Str}
theorem bind_some {α β : Type} {o : Option α} {g : α → Option β} {b : β} (h : o.bind g = some b) : ∃ a, o = some a ∧ g a = some b := by
  cases o with
  | none => cases h
  | some a => exact ⟨a, rfl, h⟩
theorem cond_some {α : Type} {b : Bool} {o : Option α} {r : α} (h : (bif b then o else none) = some r) : b = true ∧ o = some r := by
  cases b with
  | true => exact ⟨rfl, h⟩
  | false => cases h
theorem dtKv_len {K : PySem.W.Frag} {O : Ow} {H : Hp} : ∀ {kvs : List (Key × D)} {es : List (Key × V)}, DtKv K O H kvs es → kvs.length = es.length
  | [], es, h => by unfold DtKv at h; subst h; rfl
  | (k, d) :: kvs, es, h => by
    unfold DtKv at h
    obtain ⟨x, r, rfl, _, h2⟩ := h
    rw [List.length_cons, List.length_cons, dtKv_len h2]
theorem callB_len (m : MthT X.prog X.w X.K X.mg X.base j "__len__" 1 cs t) (cn : Cn X W k) (hj : j + 1 ≤ k := by decide) : CallB X (.builtin "len") (lenB t) := ⟨fun pins s σ H φ O ρ v u d r Q I rv fm l e q => by
  obtain ⟨d, b⟩ := d
  cases d with
  | obj C fs =>
    obtain ⟨F, el, e1⟩ := bind_some e
    obtain ⟨eb, e2⟩ := cond_some e1
    obtain ⟨r0, e1, e2⟩ := bind_some e2
    have dt : Dt X.K O H (.obj C fs) v := l.2 eb
    obtain ⟨hC, f, fd, ps, hp, Fn, at', isf, kp, bd⟩ := m.to C F el
    obtain ⟨a, dx, es, rfl, ea, _⟩ := lk_obj l.1
    cases (show u = Value.ref a from rv)
    obtain ⟨mA, J, _⟩ := ins_get I.hok ea
    obtain ⟨od, J, _⟩ := J.look
    obtain ⟨m', hF⟩ := I.fr
    refine PySem.W.len_K hF I.ok.mod.kin J at' isf (wpAny_mono (call_pure (us := [.ref a]) (vs := [.ref a]) Fn (cn.gu rfl) (A' := X.A.in1) (Room.in1 (cn.rm.mono hj)) rfl bd I (.cons rfl .nil) rfl fm (two_dt1 dt) e1) (fun w s' z => ?_) fun _ _ z => z)
    obtain ⟨v', H', rv', J', f', ex, dt'⟩ := z
    cases r0 with
    | int n =>
      have e2' : (if 0 ≤ n ∧ n < 2 ^ 63 then some (D.int n) else none) = some r := e2
      split at e2'
      · rename_i hn
        cases e2'
        have ev : v' = .int n := by unfold Dt at dt'; exact dt'
        subst ev
        obtain ⟨t, rfl⟩ := (show ∃ t, w = Value.int n t from rv')
        exact ⟨hn, .int n, H', J'.tok _, ⟨_, rfl⟩, q _ _ f' ex dt_int⟩
      · cases e2'
    | _ => cases e2
  | dct kvs =>
    cases e
    obtain ⟨a, es, rfl, ea, qk⟩ := (show ∃ a es, v = .ref a ∧ Rd H a (.dK es) ∧ DtKv X.K O H kvs es from l.1)
    cases (show u = Value.ref a from rv)
    have hl := dtKv_len qk
    exact d_len I ea fun t s' I' => ⟨.int kvs.length, H, I', ⟨t, by rw [hl]⟩, q _ _ fm .refl dt_int⟩
  | _ => exact (callB_plain (h := dLen) call_lenA sem_len).run pins s σ H φ O ρ v u (_, b) r Q I rv fm l e q⟩
/-- truth, of anything -/
theorem tru_B (m : MthT X.prog X.w X.K X.mg X.base j "__bool__" 1 cs t) {A' : Around} (gu : A'.guards = some []) (rm : Room j A') (fr : A'.frames = X.A.frames) {pins : List (Addr × Obj)} {s : Shared} {σ : L2.St} {H : Hp} {φ : Fx} {O : Ow} {ρ : List Sl} {v : V} {u : Value} {d : D × Bool} {b : Bool} (I : Inv X pins σ H s) (rv : RelV v u) (fm : Fm X.K φ O ρ σ H) (l : LkB X.K O H d v) (e : truB t d = some b)
    {Q : Bool → Shared → Prop} (q : ∀ s' H', Inv X pins σ H' s' → Fm X.K φ O ρ σ H' → Ext H H' → Q b s')
    (qp : (∀ C fs, d.1 ≠ .obj C fs) → wpAny (model X.prog X.w) A' (truthy u) Q X.xe s) : wpAny (model X.prog X.w) A' (truthy u) Q X.xe s := by
  obtain ⟨d, c⟩ := d
  cases d with
  | obj C fs =>
    obtain ⟨F, el, e1⟩ := bind_some e
    obtain ⟨eb, e2⟩ := cond_some e1
    obtain ⟨r0, e1, e2⟩ := bind_some e2
    have dt : Dt X.K O H (.obj C fs) v := l.2 eb
    obtain ⟨hC, f, fd, ps, hp, Fn, at', isf, kp, bd⟩ := m.to C F el
    obtain ⟨a, dx, es, rfl, ea, _⟩ := lk_obj l.1
    cases (show u = Value.ref a from rv)
    obtain ⟨mA, J, _⟩ := ins_get I.hok ea
    obtain ⟨od, J, _⟩ := J.look
    obtain ⟨m', hF⟩ := I.fr
    refine PySem.W.truthy_K hF I.ok.mod.kin J at' isf (wpAny_mono (call_pure (us := [.ref a]) (vs := [.ref a]) Fn gu rm fr bd I (.cons rfl .nil) rfl fm (two_dt1 dt) e1) (fun w s' z => ?_) fun _ _ z => z)
    obtain ⟨v', H', rv', J', f', ex, dt'⟩ := z
    cases r0 with
    | bl b' =>
      cases e2
      have ev : v' = .bl b := by unfold Dt at dt'; exact dt'
      subst ev
      cases (show w = Value.bool b from rv')
      exact q s' H' J' f' ex
    | _ => cases e2
  | _ => exact qp (fun _ _ z => nomatch z)
/-- a value's truth, wherever it is asked for; a locked dict's, too -/
theorem tru_at {X : Cx} {A : Around} {E : Value → Shared → Prop} {pins : List (Addr × Obj)} {s : Shared} {σ : L2.St} {H : Hp} {O : Ow} {v : V} {u : Value} {d : D} {b : Bool} {Q : Bool → Shared → Prop} (I : Inv X pins σ H s) (rv : RelV v u) (l : Lk X.K O H d v) (e : truD d = some b) (q : ∀ s', Inv X pins σ H s' → Q b s') :
    wpAny (model X.prog X.w) A (truthy u) Q E s := by
  have hl := line63
  have sq : ∀ (p : Addr) (xs : List V), SqL X.K H p xs → b = !xs.isEmpty → wpAny (model X.prog X.w) A (truthy (.ref p)) Q E s := fun p xs hx eb => by
    obtain ⟨its, r, pl, hz⟩ := I.list hx
    have hlen := r.length
    exact wpAny_truthy_list pl.isList (by simp only [List.size_toArray]; omega) (by rw [isEmpty_of r, ← eb]; exact q _ (I.tok _))
  have tq : ∀ (p : Addr) (xs : List V), SqT X.K H p xs → b = !xs.isEmpty → wpAny (model X.prog X.w) A (truthy (.ref p)) Q E s := fun p xs hx eb => by
    obtain ⟨its, r, pl, hz⟩ := I.tuple hx
    have hlen := r.length
    exact truthy_tuple pl (by simp only [List.size_toArray]; omega) (by rw [isEmpty_of r, ← eb]; exact q _ (I.tok _))
  cases d with
  | non => cases e; rw [lk_non l] at rv; cases (show u = Value.none from rv); exact truthy_none (q _ I)
  | bl c => cases e; rw [lk_bl l] at rv; cases (show u = Value.bool b from rv); exact wpAny_truthy_bool (q _ I)
  | int i =>
    cases e; rw [lk_int l] at rv; obtain ⟨t, rfl⟩ := (show ∃ t, u = Value.int i t from rv)
    exact PySem.P.truthy_int (q _ I)
  | str x =>
    rw [lk_str l] at rv
    obtain ⟨t, rfl⟩ := (show ∃ t, u = Value.str x t from rv)
    have e' : (if x.length ≤ sizeLine then some ((x.length : Int) != 0) else none) = some b := e
    split at e'
    · cases e'
      have hs : sizeLine = 16777216 := sizeLine_eq
      exact PySem.P.truthy_str (by omega) (q _ (I.tok _))
    · cases e'
  | lst ds =>
    cases e
    obtain ⟨a, xs, rfl, ha, qa⟩ := l
    cases (show u = Value.ref a from rv)
    exact sq a xs (SqL.of ha) (by rw [isEmpty_len (dtAll_len qa)])
  | tup ds =>
    cases e
    obtain ⟨a, xs, rfl, ha, qa⟩ := lk_tup l
    cases (show u = Value.ref a from rv)
    exact tq a xs ha.sq (by rw [isEmpty_len (dtAll_len qa)])
  | dct kvs =>
    cases e
    obtain ⟨a, es, rfl, ea, qk⟩ := l
    cases (show u = Value.ref a from rv)
    have hk := dtKv_len qk
    have go : kvs.length ≤ sizeLine → (a == sysModules) = false → ∀ vs, KV es vs → s.heap.DictOf (mixKind X.prog X.w) a vs → wpAny (model X.prog X.w) A (truthy (.ref a)) Q E s := fun hz hS vs r m => by
      have hlen : es.length = vs.length := Paired.length r
      refine wpAny_truthy_dict hS m (by omega) ?_
      rw [isEmpty_kv r, ← isEmpty_len hk]
      exact q _ (I.tok _)
    obtain ⟨hz, hS, vs, r, m⟩ := (show ObjOk X.prog X.w H s.heap a (.dK es) from ea.ok I.hok)
    exact go (by rw [hk]; exact hz) hS vs r m
  | _ => cases e
theorem callB_bool (m : MthT X.prog X.w X.K X.mg X.base j "__bool__" 1 cs t) (cn : Cn X W k) (hj : j + 2 ≤ k := by decide) : CallB X (.type "bool") (boolB t) := ⟨fun pins s σ H φ O ρ v u d r Q I rv fm l e q => by
  cases et : truB t d with
  | none => unfold boolB at e; rw [et] at e; cases e
  | some b =>
    have er : r = .bl b := by unfold boolB at e; rw [et] at e; cases e; rfl
    subst er
    refine PySem.W.bool_of ?_
    refine tru_B m (A' := X.A.in1.in1) (cn.gu rfl) (Room.in1 (k := j) (Room.in1 (k := j + 1) (cn.rm.mono hj))) rfl I rv fm l et (fun s' H' J f' ex => ⟨.bl b, H', J, rfl, q _ _ f' ex dt_bl⟩) fun hno => ?_
    have e2 : truD d.1 = some b := by
      obtain ⟨d, c⟩ := d
      cases d with
      | obj C fs => exact absurd rfl (hno C fs)
      | _ => exact et
    exact tru_at I rv l.1 e2 fun s' I' => ⟨.bl b, H, I', rfl, q _ _ fm .refl dt_bl⟩⟩
def truBM (t : KT) (f : Mo Pl) : Mo Bool := f >>= fun p => lookB p >>= fun x => Mo.lift (truB t x)
theorem st_truB {a : Expr} {f : Mo Pl} (m : MthT X.prog X.w X.K X.mg X.base j "__bool__" 1 cs t) (cn : Cn X W k) (ha : PE X a (tP X.K W f)) (hj : j ≤ k := by decide) (he : ∀ whole, isTrue a X.env whole = (do let v ← whole; standAt a.pos; holding [v] (truthy v)) := by intro _; rfl) : PT X a (tT X.K W (truBM t f)) := by
  refine ⟨fun pins s σ H Q I q => ?_⟩
  obtain ⟨φ, O, ρ, fm, q⟩ := q
  refine isTrue_plain (thn (ha.run pins s σ H _ I (fin_bind (rel := rP X.K) fm q)) fun u s1 ⟨v, H1, I1, rv, O1, ρ1, p, f1, s1', r1, q1⟩ => ?_) (he _)
  obtain ⟨d, l, q1⟩ := fin_lookB f1 (rP_ok r1) q1
  obtain ⟨b, e, q1⟩ := fin_lift q1
  refine tru_B m (A' := X.A) (cn.gu rfl) (cn.rm.mono hj) rfl I1 rv f1 l e (fun s' H' J f' ex => ⟨H', J, q1 b O1 H' f' ex.stp rfl⟩) fun hno => ?_
  have e2 : truD d.1 = some b := by
    obtain ⟨d, c⟩ := d
    cases d with
    | obj C fs => exact absurd rfl (hno C fs)
    | _ => exact e
  exact tru_at I1 rv l.1 e2 fun s' I' => ⟨H1, I', q1 b O1 H1 f1 .refl rfl⟩
theorem callB_str (m : MthT X.prog X.w X.K X.mg X.base j "__str__" 1 cs t) (cn : Cn X W k) (hj : j + 2 ≤ k := by decide) : CallB X (.type "str") (strB t) := ⟨fun pins s σ H φ O ρ v u d r Q I rv fm l e q => by
  obtain ⟨d, b⟩ := d
  cases d with
  | obj C fs =>
    obtain ⟨F, el, e1⟩ := bind_some e
    obtain ⟨eb, e2⟩ := cond_some e1
    obtain ⟨r0, e1, e2⟩ := bind_some e2
    have dt : Dt X.K O H (.obj C fs) v := l.2 eb
    obtain ⟨hC, f, fd, ps, hp, Fn, at', isf, kp, bd⟩ := m.to C F el
    obtain ⟨a, dx, es, rfl, ea, _⟩ := lk_obj l.1
    cases (show u = Value.ref a from rv)
    obtain ⟨mA, J, _⟩ := ins_get I.hok ea
    obtain ⟨od, J, _⟩ := J.look
    refine PySem.W.kso_call (by have := Room.units cn.rm; show X.A.units + 1 + 1 < _; omega) I.kIn J at' isf (wpAny_mono (call_pure (us := [.ref a]) (vs := [.ref a]) Fn (cn.gu rfl) (A' := X.A.in1.in1) (Room.in1 (k := j) (Room.in1 (k := j + 1) (cn.rm.mono hj))) rfl bd I (.cons rfl .nil) rfl fm (two_dt1 dt) e1) (fun w s' z => ?_) fun _ _ z => z)
    obtain ⟨v', H', rv', J', f', ex, dt'⟩ := z
    cases r0 with
    | str x =>
      cases e2
      have ev : v' = .str x := by unfold Dt at dt'; exact dt'
      subst ev
      obtain ⟨t, rfl⟩ := (show ∃ t, w = Value.str x t from rv')
      exact ⟨.str x, H', J', ⟨_, rfl⟩, q _ _ f' ex dt_str⟩
    | _ => cases e2
  | int i =>
    have e' : (if i.natAbs.log2 < 1920 then some (D.str (toString i)) else none) = some r := e
    split at e'
    · cases e'
      rw [lk_int l.1] at rv
      exact call_str_int pins s σ H [.int i] [u] Q I (.cons rv .nil) ⟨i, rfl, by assumption, q _ _ fm .refl dt_str⟩
    · cases e'
  | str x =>
    cases e
    rw [lk_str l.1] at rv
    obtain ⟨t, rfl⟩ := (show ∃ t, u = Value.str x t from rv)
    exact PySem.P.str_of_str ⟨.str x, H, I, ⟨t, rfl⟩, q _ _ fm .refl dt_str⟩
  | _ => cases e⟩
/-! ~x -/
def invB (t : KT) (x : D × Bool) : Mo D := match x.1 with
  | .obj C _ => match t.lookup C with
    | some F => bif x.2 then FoM (F none [x.1]) else (fun _ => .no)
    | none => fun _ => .no
  | _ => fun _ => .no
def invM (t : KT) (f : Mo Pl) : Mo D := f >>= fun p => lookB p >>= fun x => invB t x
theorem se_inv {a : Expr} {f : Mo Pl} {pos : Pos} (m : MthT X.prog X.w X.K X.mg X.base j "__invert__" 1 cs t) (cn : Cn X W k) (ha : PE X a (tP X.K W f)) (hj : j ≤ k := by decide) : PE X (.UnaryOp .Invert a pos) (tE X.K W (invM t f)) := by
  refine ⟨fun pins s σ H Q I q => ?_⟩
  obtain ⟨φ, O, ρ, fm, q⟩ := q
  refine PySem.wpAny_UnaryOp (thn (ha.run pins s σ H _ I (fin_bind (rel := rP X.K) fm q)) fun u s1 ⟨v, H1, I1, rv, O1, ρ1, p, f1, s1', r1, q1⟩ => ?_)
  obtain ⟨d, l, q1⟩ := fin_lookB f1 (rP_ok r1) q1
  obtain ⟨d, c⟩ := d
  cases d with
  | obj C fs =>
    have e : invB t (.obj C fs, c) = (match t.lookup C with
      | some F => bif c then FoM (F none [.obj C fs]) else (fun _ => .no)
      | none => fun _ => .no) := rfl
    rw [e] at q1
    cases el : t.lookup C with
    | none => rw [el] at q1; exact q1.elim
    | some F =>
      rw [el] at q1
      cases c with
      | false => exact q1.elim
      | true =>
        have dt : Dt X.K O1 H1 (.obj C fs) v := l.2 rfl
        obtain ⟨hC, f, fd, ps, hp, Fn, at', isf, kp, bd⟩ := (m.up hj).to C F el
        obtain ⟨a, dx, es, rfl, ea, _⟩ := lk_obj l.1
        cases (show u = Value.ref a from rv)
        obtain ⟨mA, J, _⟩ := ins_get I1.hok ea
        obtain ⟨od, J, _⟩ := J.look
        obtain ⟨m', hF⟩ := I1.fr
        refine PySem.W.ksp_inv hF I1.ok.mod.kin J at' isf ?_
        exact call_dat (us := [.ref a]) (vs := [.ref a]) Fn cn.tk (cn.gu rfl) cn.rm rfl bd I1 (.cons rfl .nil) rfl f1 (two_dt1 dt) q1
  | _ => exact q1.elim
end
end VS

namespace VS
open PySem PySem.Spec PyProof.Rows L2
/-! ### how a call binds, the first parameter apart -/
abbrev GD := List D → List D → List D
structure Bnd (K : PySem.W.Frag) (fd : FuncData) (ps : List Str) (n : Nat) (ks : List Str) (gD : GD) : Prop where
  ex : ∃ (g : List Value → List Value → List Value) (gV gV2 : List V → List V → List V), KBn K fd ps (n + 1) ks g gV ∧ (∀ a vs zs, vs.length = n → gV (a :: vs) zs = a :: gV2 vs zs) ∧ ∀ (O : Ow) (H : Hp) (ds es : List D) (vs zs : List V), DtAll K O H ds vs → DtAll K O H es zs → DtAll K O H (gD ds es) (gV2 vs zs)
def gPlain : GD := fun ds _ => ds
def gDfl (dfl : List D) : GD := fun ds _ => ds ++ dfl
section
variable {K : PySem.W.Frag} {fd : FuncData} {ps : List Str} {n : Nat} {ds : List Value} {dvs : List V} {dl : List D}
theorem Bnd.plain (b : Binds K fd ps []) (hn : ps.length = n + 1) : Bnd K fd ps n [] gPlain := by
  refine ⟨fun us _ => us, fun vs _ => vs, fun vs _ => vs, ⟨fun s us ws X l1 _ => ?_, fun r _ => r⟩, fun _ _ _ _ => rfl, fun O H ds es vs zs h _ => h⟩
  have h := b s us X (by rw [List.append_nil, l1, hn])
  rw [List.append_nil] at h
  exact h
theorem Bnd.ofDfl (b : Binds K fd ps ds) (hd : Vals dvs ds) (dt : ∀ O H, DtAll K O H dl dvs) (hn : ps.length = n + 1 + ds.length) : Bnd K fd ps n [] (gDfl dl) := by
  refine ⟨fun us _ => us ++ ds, fun vs _ => vs ++ dvs, fun vs _ => vs ++ dvs, ⟨fun s us ws X l1 _ => ?_, fun r _ => r.append hd⟩, fun _ _ _ _ => rfl, fun O H ds es vs zs h _ => dtAll_app h (dt O H)⟩
  exact b s us X (by rw [List.length_append, l1, hn])
end
section
variable {X : Cx} {W : WX} {k n : Nat} {f C : Addr} {fd : FuncData} {ps ks : List Str} {sp : Sp} {g : List Value → List Value → List Value} {gV : List V → List V → List V}
theorem run_atN {A' : Around} {pins : List (Addr × Obj)} {σ : L2.St} {H : Hp} {s : Shared} {Q : VK} {us ws : List Value} {vs zs : List V} (F : FnG X.prog X.w X.K X.mg X.base k f fd ps sp) (tk : Takes X W) (gu : A'.guards = some []) (rm : Room k A') (fr : A'.frames = X.A.frames)
    (hb : KBn X.K fd ps n ks g gV) (I : Inv X pins σ H s) (r : Vals vs us) (rz : Vals zs ws) (l1 : vs.length = n) (l2 : zs.length = ks.length) (h : sp (gV vs zs) H Q (WE W σ)) : wpAny (model X.prog X.w) A' (call (.ref f) us (ks.zip ws)) (EP X pins σ Q) X.xe s := by
  have r2 := hb.rel r rz
  have e0 : Env0 X.prog X.w X.K X.mg X.base A' X.stack s H := by
    have e := I.env0
    exact ⟨by rw [fr]; exact e.frames, e.mod, e.bs, e.bsz, e.funs, e.frf, e.hok, e.bare⟩
  refine wpAny_call (codeAny_mono (F.go A' X.stack s H ⟨us, ks.zip ws⟩ (g us ws) (gV vs zs) Q (WE W σ) (fun _ => gu) rm e0 (hb.to s us ws I.kIn (r.length.symm.trans l1) (rz.length.symm.trans l2)) r2 h) fun res s' z => ?_)
  cases res with
  | error e => exact passAt tk σ pins H s e s' I z
  | ok fl =>
    cases fl with
    | ret u => exact I.after z
    | next => exact z.elim
    | brk => exact z.elim
    | cont => exact z.elim
theorem run_makeN' {pins : List (Addr × Obj)} {σ : L2.St} {H : Hp} {s : Shared} {Q : VK} {us ws : List Value} {vs zs : List V} (M : Mk X.K C f) (F : FnG X.prog X.w X.K X.mg X.base k f fd ps sp) (cn : Cn X W (k + 1)) (hb : KBn X.K fd ps (n + 1) ks g gV)
    (I : Inv X pins σ H s) (r : Vals vs us) (rz : Vals zs ws) (l1 : vs.length = n) (l2 : zs.length = ks.length)
    (h : ∀ x dx, H x = none → H dx = none → dx ≠ x → sp (gV (.ref x :: vs) zs) (upd (upd H dx (.own x)) x (.ins C dx [])) (fun v H2 => v = .non ∧ Q (.ref x) H2) (WE W σ)) :
    wpAny (model X.prog X.w) X.A (call (.ref C) us (ks.zip ws)) (EP X pins σ Q) X.xe s := by
  have hq := h (s.heap.objs.size + 1) s.heap.objs.size (I.hok.fresh (Nat.le_succ _)) (I.hok.fresh (Nat.le_refl _)) (Nat.ne_of_lt (Nat.lt_succ_self _))
  have I2 := Inv.made (C := C) I
  have r1 : Vals (V.ref (s.heap.objs.size + 1) :: vs) (Value.ref (s.heap.objs.size + 1) :: us) := .cons rfl r
  have r2 := hb.rel r1 rz
  have e1 : (Value.ref (s.heap.objs.size + 1) :: us).length = n + 1 := r1.length.symm.trans (congrArg Nat.succ l1)
  have e2 : ws.length = ks.length := rz.length.symm.trans l2
  have gd : (X.A.under (.builtin "type.__call__" ⟨.ref C :: us, ks.zip ws⟩)).guards = some [] := by
    have z : (X.A.under (.builtin "type.__call__" ⟨.ref C :: us, ks.zip ws⟩)).guards = X.A.guards := by
      first | rfl | simp [Around.under, Code.isGuard, guardIds] | (cases h : X.A.guards <;> simp [Around.under, Code.isGuard, guardIds, h])
    rw [z]; exact (cn.gu rfl)
  refine wpAny_call (make_map (f := f) I.kIn M.makes M.init (beq_iff_eq.mp M.fn) (codeAny_mono (F.go _ X.stack _ _ ⟨Value.ref (s.heap.objs.size + 1) :: us, ks.zip ws⟩ (g (Value.ref (s.heap.objs.size + 1) :: us) ws) _ _ (WE W σ) (fun _ => gd) (cn.rm.make C us (ks.zip ws))
    (I2.env0.make C us (ks.zip ws)) (hb.to _ (Value.ref (s.heap.objs.size + 1) :: us) ws I2.kIn e1 e2) r2 hq) fun r s' hq' => ?_))
  cases r with
  | error e => exact passAt cn.tk σ pins _ _ e s' I2 hq'
  | ok fl =>
    cases fl with
    | ret u =>
      obtain ⟨v, H', I3, rv, ev, q3⟩ := I2.after hq'
      subst ev
      exact ⟨rv, ⟨V.ref (s.heap.objs.size + 1), H', I3, rfl, q3⟩⟩
    | next => exact False.elim hq'
    | brk => exact False.elim hq'
    | cont => exact False.elim hq'
end
/-! ### a new instance -/
def mkR (r : Fo) : Mo D := match r with
  | .ok .non (some d) => bif d.isDct then (fun _ => .no) else pure d
  | .ex e _ => fun ρ => .ex e ρ
  | _ => fun _ => .no
/-- C(..) -/
def makeM (C : Addr) (n m : Nat) (F : FF) (gD : GD) (g gk : Mo (List D)) : Mo D := g >>= fun ds => gk >>= fun es => bif ds.length == n && es.length == m then mkR (F (some (.obj C [])) (gD ds es)) else (fun _ => .no)
/-- a class that is known: its __init__ -/
structure MkE (P : Program) (w : World) (K : PySem.W.Frag) (mg : Str → Option Value) (base : Heap) (j : Nat) (C : Addr) (n : Nat) (ks : List Str) (F : FF) (gD : GD) : Prop where
  ex : ∃ (f : Addr) (fd : FuncData) (ps : List Str) (m : Nat), Mk K C f ∧ FnG P w K mg base j f fd ps (SpF K false ps.length F) ∧ Bnd K fd ps n ks gD ∧ Ar F true m ∧ ps.length = m + 1
section
variable {X : Cx} {W : WX} {k j n : Nat} {C f : Addr} {ks : List Str} {F : FF} {gD : GD} {x : Str} {p pos : Pos} {e : Expr} {es : List Expr} {kws : List Keyword} {g gk : Mo (List D)}
theorem spf_make {K : PySem.W.Frag} {n m : Nat} {F : FF} {φ : Fx} {O : Ow} {ρ : List Sl} {σ : L2.St} {H : Hp} {ds : List D} {vs : List V} {Q : VK} {x dx : Addr} (ar : Ar F true m) (hn : n = m + 1) (fm : Fm K φ O ρ σ H) (hd : DtAll K O H ds vs) (hx : H x = none) (hdx : H dx = none) (ne : dx ≠ x)
    (q : fin K W (rD K) φ (mkR (F (some (.obj C [])) ds)) σ O ρ H Q) : SpF K false n F (.ref x :: vs) (upd (upd H dx (.own x)) x (.ins C dx [])) (fun v H2 => v = .non ∧ Q (.ref x) H2) (WE W σ) := by
  have hx1 : (upd H dx (.own x)) x = none := by rw [upd_ne (Ne.symm ne)]; exact hx
  have ex : Ext H (upd (upd H dx (.own x)) x (.ins C dx [])) := fun b o e => by
    rw [upd_ne (ne_of_none e hx), upd_ne (ne_of_none e hdx)]; exact e
  have nO : ¬ O x := fun z => by
    obtain ⟨o, e⟩ := fm.here x z
    rw [hx] at e; cases e
  have st : Stp O H (plus O x) (upd (upd H dx (.own x)) x (.ins C dx [])) := ⟨fun b o _ e => ex b o e, fun b z => z.elim .inl fun e => .inr (e ▸ hx)⟩
  have hl : F (some (.obj C [])) ds ≠ .no := fun e => by rw [e] at q; exact q
  have ln := (ar _ _ hl).2
  refine ⟨plus O x, some x, some (.obj C []), ds, vs, rfl, by rw [hn, ← ln, dtAll_len hd]; rfl, fun a z => ?_, ⟨.inr rfl, dx, [], upd_same, by unfold DtFs; rfl⟩, hd.step st, ?_⟩
  · rcases z with z | z
    · obtain ⟨o, e⟩ := fm.here a z
      exact ⟨o, ex _ _ e⟩
    · subst z; exact ⟨_, upd_same⟩
  have back : ∀ {H' : Hp}, (∀ b o, (some x : Option Addr) ≠ some b → (upd (upd H dx (.own x)) x (.ins C dx [])) b = some o → H' b = some o) → Ext H H' := fun kp b o e => kp b o (fun z => by cases z; rw [hx] at e; cases e) (ex b o e)
  cases eF : F (some (.obj C [])) ds with
  | no => exact hl eF
  | ex xx io' =>
    rw [eF] at q
    intro c dd H' kp io xc
    have ext := back kp
    exact q c dd O H' (fm.ext ext) ext.stp (xc_less xc fun b z => .inl z)
  | ok r io' =>
    rw [eF] at q
    intro v H' kp io dt
    have ext := back kp
    rw [if_neg (by decide)] at dt
    cases io' with
    | none => exact io.elim
    | some d' =>
      cases r with
      | non =>
        have ev : v = .non := by unfold Dt at dt; exact dt
        subst ev
        refine ⟨rfl, ?_⟩
        have q' : fin K W (rD K) φ (bif d'.isDct then (fun _ => .no) else pure d' : Mo D) σ O ρ H Q := q
        cases hdc : d'.isDct with
        | true => rw [hdc] at q'; exact q'.elim
        | false =>
          rw [hdc] at q'
          exact q' (.ref x) O H' (fm.ext ext) ext.stp ((Own.less io.2 fun b z => .inl z).dt nO hdc)
      | _ => exact q.elim
theorem len_of {K : PySem.W.Frag} {O : Ow} {H : Hp} {ds : List D} {vs : List V} (h : DtAll K O H ds vs) {n : Nat} (e : (ds.length == n) = true) : vs.length = n := by rw [← dtAll_len h]; exact beq_iff_eq.mp e
theorem cond_fin {K : PySem.W.Frag} {φ : Fx} {O : Ow} {ρ : List Sl} {σ : L2.St} {H : Hp} {Q : VK} {b : Bool} {m : Mo D} (q : fin K W (rD K) φ (bif b then m else (fun _ => .no)) σ O ρ H Q) : b = true ∧ fin K W (rD K) φ m σ O ρ H Q := by
  cases b with
  | true => exact ⟨rfl, q⟩
  | false => exact q.elim
/-- keywords' data -/
structure KD (X : Cx) (W : WX) (kws : List Keyword) (g : Mo (List D)) : Prop where
  pk : PK X kws (tA X.K W g)
theorem skd_nil : KD X W [] (pure []) := ⟨⟨fun pos pins s σ H Q I q => pk_nil.run pos pins s σ H Q I (by
  obtain ⟨φ, O, ρ, fm, q⟩ := q
  exact q [] O H fm .refl (by unfold rA DtAll; rfl))⟩⟩
theorem skd_cons {f : Mo D} {nm : Option Str} {kpos : Pos} (ha : PE X e (tE X.K W f)) (hr : KD X W kws g) : KD X W (⟨nm, e, kpos⟩ :: kws) (consD f g) := ⟨⟨fun pos pins s σ H Q I q => (pk_cons ha hr.pk).run pos pins s σ H Q I (by
  obtain ⟨φ, O, ρ, fm, q⟩ := q
  refine tX_mono (fin_bind (rel := rD X.K) fm q) fun v H1 ⟨O1, ρ1, p, f1, s1, r1, q⟩ => ?_
  refine tX_mono (fin_bind (rel := rA X.K) f1 q) fun vs H2 ⟨O2, ρ2, ps, f2, s2, r2, q⟩ => ?_
  exact q (v :: vs) O2 H2 f2 .refl (by unfold rA DtAll; exact ⟨v, vs, rfl, Dt.step s2 _ _ r1, r2⟩))⟩⟩
theorem make_ok (M : MkE X.prog X.w X.K X.mg X.base j C n ks F gD) (cn : Cn X W k) (hj : j + 1 ≤ k) {pins : List (Addr × Obj)} {s : Shared} {σ : L2.St} {H : Hp} {Q : VK} {us ws : List Value} {vs zs : List V} {ds es : List D} {φ : Fx} {O : Ow} {ρ : List Sl} (I : Inv X pins σ H s) (r : Vals vs us) (rz : Vals zs ws) (fm : Fm X.K φ O ρ σ H) (hd : DtAll X.K O H ds vs) (he : DtAll X.K O H es zs)
    (q : fin X.K W (rD X.K) φ (bif ds.length == n && es.length == ks.length then mkR (F (some (.obj C [])) (gD ds es)) else (fun _ => .no)) σ O ρ H Q) : wpAny (model X.prog X.w) X.A (call (.ref C) us (ks.zip ws)) (EP X pins σ Q) X.xe s := by
  obtain ⟨f, fd, ps, m, M, Fn, bn, ar, hp⟩ := M.ex
  obtain ⟨g, gV, gV2, kb, g1, g2⟩ := bn.ex
  obtain ⟨hb, q⟩ := cond_fin q
  rw [Bool.and_eq_true] at hb
  have l1 := len_of hd hb.1
  refine run_makeN' M Fn (cn.lo hj) kb I r rz l1 (len_of he hb.2) fun x dx hx hdx ne => ?_
  rw [g1 _ _ _ l1]
  exact spf_make ar hp fm (g2 _ _ _ _ _ _ hd he) hx hdx ne q
theorem se_make (M : MkE X.prog X.w X.K X.mg X.base j C n [] F gD) (cn : Cn X W k) (hm : X.mg x = some (.ref C)) (kp : PySem.W.keepIn X.K (.ref C) = true) (ha : PA X (e :: es) (tA X.K W g)) (hj : j + 1 ≤ k := by decide) (hg : Gl X x := by rfl) (hdb : (x == ("__debug__" : Str)) = false := by decide) (he : starEach (e :: es) X.env = (false, eval e X.env) :: starEach es X.env := by rfl) (hpl : (backTo pos (starEach es X.env)).any (·.1) = false := by rfl) :
    PE X (.Call (.Name x p) (e :: es) [] pos) (tE X.K W (makeM C n 0 F gD g (pure []))) := by
  refine ⟨fun pins s σ H Q I q => ?_⟩
  obtain ⟨φ, O, ρ, fm, q⟩ := q
  refine wpAny_Call_Name_kw (ld_glob I hg hm ?_ hdb)
  refine PySem.W.callWith_K (h₀ := X.base) I.ok.mod.kin kp (thn (ha.run pos pins s σ H _ I (fin_bind (rel := rA X.K) fm q)) fun us s1 ⟨vs, H1, I1, r, O1, ρ1, ds, f1, s1', r1, q1⟩ => ⟨I1.kIn, ?_⟩) he hpl
  exact make_ok (ks := []) M cn hj (ws := []) (zs := []) (es := []) I1 r .nil f1 r1 (by unfold DtAll; rfl) q1
theorem se_makeK (M : MkE X.prog X.w X.K X.mg X.base j C n ks F gD) (cn : Cn X W k) (hm : X.mg x = some (.ref C)) (kp : PySem.W.keepIn X.K (.ref C) = true) (ha : PA X (e :: es) (tA X.K W g)) (hkw : KD X W kws gk) (hj : j + 1 ≤ k := by decide) (hg : Gl X x := by rfl) (hall : (backToKw pos (keywordEach kws X.env)).all (·.1.isSome) = true := by rfl) (hks : (backToKw pos (keywordEach kws X.env)).filterMap (·.1) = ks := by rfl)
    (hdb : (x == ("__debug__" : Str)) = false := by decide) (he : starEach (e :: es) X.env = (false, eval e X.env) :: starEach es X.env := by rfl) (hpl : ((backTo pos (starEach (e :: es) X.env)).any (·.1) || (backToKw pos (keywordEach kws X.env)).any (·.1.isNone)) = false := by rfl) :
    PE X (.Call (.Name x p) (e :: es) kws pos) (tE X.K W (makeM C n ks.length F gD g gk)) := by
  refine ⟨fun pins s σ H Q I q => ?_⟩
  obtain ⟨φ, O, ρ, fm, q⟩ := q
  refine wpAny_Call_Name_kw (ld_glob I hg hm ?_ hdb)
  refine PySem.W.callWith_KW (h₀ := X.base) I.ok.mod.kin kp hall (thn (ha.run pos pins s σ H _ I (fin_bind (rel := rA X.K) fm q)) fun us s1 ⟨vs, H1, I1, r, O1, ρ1, ds, f1, s1', r1, q1⟩ => ?_) hpl he
  refine thn (hkw.pk.run pos pins s1 σ H1 _ I1 (fin_bind (rel := rA X.K) f1 q1)) fun ws s2 ⟨zs, H2, I2, rz, O2, ρ2, es', f2, s2', r2, q2⟩ => ⟨I2.kIn, ?_⟩
  rw [hks]
  exact make_ok M cn hj I2 r rz f2 (r1.step s2') r2 q2
/-- cls(..), cls a variable -/
def makeL (i : Nat) (C : Addr) (n : Nat) (F : FF) (gD : GD) (g : Mo (List D)) : Mo D := fun ρ => match ρ[i]? with
  | some (.dat (.kls C')) => if C' = C then makeM C n 0 F gD g (pure []) ρ else .no
  | _ => .no
theorem se_makeL (i : Nat) (M : MkE X.prog X.w X.K X.mg X.base j C n [] F gD) (cn : Cn X W k) (kp : PySem.W.keepIn X.K (.ref C) = true) (ha : PA X (e :: es) (tA X.K W g)) (hj : j + 1 ≤ k := by decide) (hN : X.N[i]? = some x := by rfl) (hv : Vis X.env.scope x := by first | exact Or.inl rfl | exact Or.inr (Or.inl rfl) | exact Or.inr (Or.inr rfl))
    (hdb : (x == ("__debug__" : Str)) = false := by decide) (hcd : (x == ("__classdict__" : Str)) = false := by decide) (he : starEach (e :: es) X.env = (false, eval e X.env) :: starEach es X.env := by rfl) (hpl : (backTo pos (starEach es X.env)).any (·.1) = false := by rfl) :
    PE X (.Call (.Name x p) (e :: es) [] pos) (tE X.K W (makeL i C n F gD g)) := by
  refine ⟨fun pins s σ H Q I q => ?_⟩
  obtain ⟨φ, O, ρ, fm, q⟩ := q
  unfold fin makeL at q
  cases es' : ρ[i]? with
  | none => rw [es'] at q; exact q.elim
  | some sl =>
    rw [es'] at q
    cases sl with
    | dat d => cases d with
      | kls C' =>
        dsimp only at q
        by_cases hc : C' = C
        · subst hc
          rw [if_pos rfl] at q
          obtain ⟨v, ev, dt⟩ := fm.slot i _ es'
          have ev2 : v = .ref C' := by unfold Dt at dt; exact dt
          subst ev2
          refine wpAny_Call_Name_kw (thn ((pe_var (pos := p) (i := i) hN hv hdb hcd).run pins s σ H (fun v H1 => v = .ref C' ∧ H1 = H) I ⟨.ref C', ev, rfl, rfl⟩) fun u s1 ⟨v, H1, I1, r1, q1⟩ => ?_)
          obtain ⟨rfl, rfl⟩ := q1
          cases r1
          refine PySem.W.callWith_K (h₀ := X.base) I.ok.mod.kin kp (thn (ha.run pos pins s1 σ _ _ I1 (fin_bind (rel := rA X.K) (rel2 := rD X.K) fm (show fin X.K W (rD X.K) φ (makeM C' n 0 F gD g (pure [])) σ O ρ H1 Q from q))) fun us s2 ⟨vs, H2, I2, r, O2, ρ2, ds, f2, s2', r2, q2⟩ => ⟨I2.kIn, ?_⟩) he hpl
          exact make_ok (ks := []) M cn hj (ws := []) (zs := []) (es := []) I2 r .nil f2 r2 (by unfold DtAll; rfl) q2
        · rw [if_neg hc] at q; exact q.elim
      | _ => exact q.elim
    | _ => exact q.elim
end
end VS

namespace VS
open PySem PySem.Spec PyProof.Rows L2
/-! ### methods -/
abbrev ET := List (Addr × FF × GD)
structure MetT (P : Program) (w : World) (K : PySem.W.Frag) (mg : Str → Option Value) (base : Heap) (j : Nat) (nm : Str) (n : Nat) (ks : List Str) (cs : List Addr) (t : ET) : Prop where
  to : ∀ C e, t.lookup C = some e → C ∈ cs ∧ ∃ (f : Addr) (fd : FuncData) (ps : List Str), FnG P w K mg base j f fd ps (SpF K false ps.length e.1) ∧ Ar e.1 false ps.length ∧ Meth K C nm f ∧ Bnd K fd ps n ks e.2
section
variable {P : Program} {w : World} {K : PySem.W.Frag} {mg : Str → Option Value} {base : Heap} {j k n : Nat} {nm : Str} {ks : List Str} {cs : List Addr} {t : ET} {C f : Addr} {fd : FuncData} {ps : List Str} {F : FF} {gD : GD}
theorem MetT.nil : MetT P w K mg base j nm n ks cs [] := ⟨fun C F h => by cases h⟩
theorem MetT.cons (r : MetT P w K mg base j nm n ks cs t) (hC : C ∈ cs) (Fn : FnG P w K mg base k f fd ps (SpF K false ps.length F)) (ar : Ar F false ps.length) (m : Meth K C nm f) (b : Bnd K fd ps n ks gD) (hk : k ≤ j := by decide) :
    MetT P w K mg base j nm n ks cs ((C, F, gD) :: t) := ⟨fun C' e' h => by
  rw [List.lookup_cons] at h
  by_cases e : C' = C
  · subst e
    rw [show (C' == C') = true by simp] at h
    cases h
    exact ⟨hC, f, fd, ps, Fn.up hk, ar, m, b⟩
  · rw [show (C' == C) = false by simpa using e] at h
    exact r.to C' e' h⟩
end
/-- the method of a receiver -/
def mchk (t : ET) (nm : Str) (d : D) : Option (FF × GD) := match d with
  | .obj C fs => (t.lookup C).bind fun e => bif (fs.lookup nm).isNone then some e else none
  | _ => none
def methM (t : ET) (nm : Str) (n : Nat) (fo : Mo D) (g : Mo (List D)) : Mo D := fo >>= fun d => Mo.lift (mchk t nm d) >>= fun e => g >>= fun ds => bif ds.length == n then FoM (e.1 none (d :: e.2 ds [])) else (fun _ => .no)
theorem fin_liftB {K : PySem.W.Frag} {W : WX} {φ : Fx} {O : Ow} {ρ : List Sl} {σ : L2.St} {H : Hp} {α γ δ : Type} {rel2 : Rl γ δ} {o : Option α} {k : α → Mo γ} {Q : δ → Hp → Prop} (q : fin K W rel2 φ (Mo.lift o >>= k) σ O ρ H Q) : ∃ a, o = some a ∧ fin K W rel2 φ (k a) σ O ρ H Q := by
  cases o with
  | none => exact q.elim
  | some a => exact ⟨a, rfl, q⟩
theorem mchk_some {t : ET} {nm : Str} {d : D} {e : FF × GD} (h : mchk t nm d = some e) : ∃ C fs, d = .obj C fs ∧ t.lookup C = some e ∧ fs.lookup nm = none := by
  cases d with
  | obj C fs =>
    obtain ⟨e0, el, h1⟩ := bind_some h
    obtain ⟨h2, h3⟩ := cond_some h1
    cases h3
    exact ⟨C, fs, rfl, el, Option.isNone_iff_eq_none.mp h2⟩
  | _ => cases h
section
variable {X : Cx} {W : WX} {k j n : Nat} {C f : Addr} {ks : List Str} {cs : List Addr} {t : ET} {F : FF} {gD : GD} {x m : Str} {p pos apos : Pos} {o e : Expr} {es : List Expr} {g : Mo (List D)} {fo : Mo D}
theorem mth_run {F : FF} {gD : GD} {f : Addr} {fd : FuncData} {ps : List Str} (Fn : FnG X.prog X.w X.K X.mg X.base j f fd ps (SpF X.K false ps.length F)) (ar : Ar F false ps.length) (bn : Bnd X.K fd ps n [] gD) (cn : Cn X W k) (hj : j ≤ k) {d0 : D} {a : Addr} {pins : List (Addr × Obj)} {s : Shared} {σ : L2.St} {H : Hp} {Q : VK} {us : List Value} {vs : List V} {ds : List D} {φ : Fx} {O : Ow} {ρ : List Sl} (I : Inv X pins σ H s) (r : Vals vs us) (fm : Fm X.K φ O ρ σ H) (hs : Dt X.K O H d0 (.ref a)) (hd : DtAll X.K O H ds vs) (hl : (ds.length == n) = true)
    (q : fin X.K W (rD X.K) φ (FoM (F none (d0 :: gD ds []))) σ O ρ H Q) : wpAny (model X.prog X.w) X.A (call (.ref f) (.ref a :: us)) (EP X pins σ Q) X.xe s := by
  obtain ⟨g, gV, gV2, kb, g1, g2⟩ := bn.ex
  have l1 := len_of hd hl
  have r1 : Vals (V.ref a :: vs) (Value.ref a :: us) := .cons (show L2.RelV (V.ref a) (Value.ref a) from rfl) r
  refine run_atN (us := .ref a :: us) (vs := .ref a :: vs) (ws := []) (zs := []) (Fn.up hj) cn.tk (cn.gu rfl) cn.rm rfl kb I r1 .nil (by rw [List.length_cons, l1]) rfl ?_
  rw [g1 _ _ _ l1]
  have hd2 : DtAll X.K O H (d0 :: gD ds []) (.ref a :: gV2 vs []) := by
    unfold DtAll
    exact ⟨_, _, rfl, hs, g2 _ _ _ _ _ _ hd (by unfold DtAll; rfl)⟩
  exact spf_call (rel := rD X.K) rfl ((ar none _ (fun z => by rw [z] at q; exact q)).2) fm hd2 q
theorem se_meth {pl : Sem Bool} (M : MetT X.prog X.w X.K X.mg X.base j m n [] cs t) (kc : Klasses X.K cs) (cn : Cn X W k) (ho : PE X o (tE X.K W fo)) (ha : PA X (e :: es) (tA X.K W g)) (hj : j ≤ k := by decide)
    (hst : starEach (e :: es) X.env = (false, eval e X.env) :: starEach es X.env := by rfl) (hpl : (backTo pos (starEach es X.env)).any (·.1) = false := by rfl)
    (ht : eval (.Call (.Attribute o m apos) (e :: es) [] pos) X.env = (do
      let ov ← eval o X.env
      standAt apos.atName
      let (f, first) ← holding [ov] (getMethod ov m pl)
      callWith pos f first (backTo pos (starEach (e :: es) X.env)) (backToKw pos (keywordEach [] X.env))) := by rfl) :
    PE X (.Call (.Attribute o m apos) (e :: es) [] pos) (tE X.K W (methM t m n fo g)) := by
  refine ⟨fun pins s σ H Q I q => ?_⟩
  obtain ⟨φ, O, ρ, fm, q⟩ := q
  refine PySem.W.methodCall_KW (pl := pl) (thn (ho.run pins s σ H _ I (fin_bind (rel := rD X.K) fm q)) fun u s1 ⟨x, H1, I1, rx, O1, ρ1, d, f1, s1', r1, q1⟩ => ?_) ht
  have dt : Dt X.K O1 H1 d x := r1
  obtain ⟨e0, em, q1⟩ := fin_liftB q1
  obtain ⟨C, fs, rfl, el, ef⟩ := mchk_some em
  have dt' := dt
  unfold Dt at dt'
  obtain ⟨a, dx, vs0, rfl, nO, ea, qf⟩ := dt'
  obtain rfl : u = Value.ref a := rx
  obtain ⟨hC, f, fd, ps, Fn, ar, mt, bn⟩ := M.to C e0 el
  refine getmeth_ok I1 ea (kc.k C hC).cl mt (dtFs_none qf ef) ?_
  refine PySem.W.callWith_K (first := [.ref a]) (h₀ := X.base) I.ok.mod.kin mt.kp (thn (ha.run pos pins s1 σ H1 _ I1 (fin_bind (rel := rA X.K) f1 q1)) fun us s2 ⟨vs, H2, I2, r, O2, ρ2, ds, f2, s2', r2, q2⟩ => ⟨I2.kIn, ?_⟩) hst hpl
  obtain ⟨hl, q2⟩ := cond_fin q2
  exact mth_run Fn ar bn cn hj I2 r f2 (Dt.step s2' _ _ dt) r2 hl q2
theorem se_meth0 {pl : Sem Bool} (M : MetT X.prog X.w X.K X.mg X.base j m 0 [] cs t) (kc : Klasses X.K cs) (cn : Cn X W k) (ho : PE X o (tE X.K W fo)) (hj : j ≤ k := by decide)
    (ht : eval (.Call (.Attribute o m apos) [] [] pos) X.env = (do
      let ov ← eval o X.env
      standAt apos.atName
      let (f, first) ← holding [ov] (getMethod ov m pl)
      callWith pos f first (backTo pos (starEach [] X.env)) (backToKw pos (keywordEach [] X.env))) := by rfl) :
    PE X (.Call (.Attribute o m apos) [] [] pos) (tE X.K W (methM t m 0 fo (pure []))) := by
  refine ⟨fun pins s σ H Q I q => ?_⟩
  obtain ⟨φ, O, ρ, fm, q⟩ := q
  refine PySem.W.methodCall_KW (pl := pl) (thn (ho.run pins s σ H _ I (fin_bind (rel := rD X.K) fm q)) fun u s1 ⟨x, H1, I1, rx, O1, ρ1, d, f1, s1', r1, q1⟩ => ?_) ht
  have dt : Dt X.K O1 H1 d x := r1
  obtain ⟨e0, em, q1⟩ := fin_liftB q1
  obtain ⟨C, fs, rfl, el, ef⟩ := mchk_some em
  have dt' := dt
  unfold Dt at dt'
  obtain ⟨a, dx, vs0, rfl, nO, ea, qf⟩ := dt'
  obtain rfl : u = Value.ref a := rx
  obtain ⟨hC, f, fd, ps, Fn, ar, mt, bn⟩ := M.to C e0 el
  refine getmeth_ok I1 ea (kc.k C hC).cl mt (dtFs_none qf ef) ?_
  exact PySem.W.callWith_K0 (first := [.ref a]) I1.kIn mt.kp (mth_run (us := []) (vs := []) (ds := []) Fn ar bn cn hj I1 .nil f1 dt (by unfold DtAll; rfl) rfl q1)
/-! ### methods of a class, called by the class -/
structure CmE (P : Program) (w : World) (K : PySem.W.Frag) (mg : Str → Option Value) (base : Heap) (j : Nat) (m : Str) (n : Nat) (C : Addr) (F : FF) (gD : GD) : Prop where
  ex : ∃ (f : Addr) (fd : FuncData) (ps : List Str) (mc : Value) (p : Addr), FnG P w K mg base j f fd ps (SpF K false ps.length F) ∧ Ar F false ps.length ∧ ClX.CRead K C mc ∧ ClX.CMet K C mc m p f ∧ Bnd K fd ps n [] gD
/-- C.m(..), m a method of the class -/
def cmM (C : Addr) (n : Nat) (F : FF) (gD : GD) (g : Mo (List D)) : Mo D := g >>= fun ds => bif ds.length == n then FoM (F none (.kls C :: gD ds [])) else (fun _ => .no)
theorem se_cmeth {pl : Sem Bool} (M : CmE X.prog X.w X.K X.mg X.base j m n C F gD) (cn : Cn X W k) (hm : X.mg x = some (.ref C)) (ha : PA X (e :: es) (tA X.K W g)) (hj : j ≤ k := by decide) (hg : Gl X x := by rfl) (hdb : (x == ("__debug__" : Str)) = false := by decide)
    (hst : starEach (e :: es) X.env = (false, eval e X.env) :: starEach es X.env := by rfl) (hpl : (backTo pos (starEach es X.env)).any (·.1) = false := by rfl)
    (ht : eval (.Call (.Attribute (.Name x p) m apos) (e :: es) [] pos) X.env = (do
      let ov ← eval (.Name x p) X.env
      standAt apos.atName
      let (f, first) ← holding [ov] (getMethod ov m pl)
      callWith pos f first (backTo pos (starEach (e :: es) X.env)) (backToKw pos (keywordEach [] X.env))) := by rfl) :
    PE X (.Call (.Attribute (.Name x p) m apos) (e :: es) [] pos) (tE X.K W (cmM C n F gD g)) := by
  obtain ⟨f, fd, ps, mc, pp, Fn, ar, cr, cm, bn⟩ := M.ex
  refine ⟨fun pins s σ H Q I q => ?_⟩
  obtain ⟨φ, O, ρ, fm, q⟩ := q
  refine PySem.W.methodCall_KW (pl := pl) (thn ((pe_glob (pos := p) hg hm (v := .ref C) rfl hdb).run pins s σ H (fun v H1 => v = .ref C ∧ H1 = H) I ⟨rfl, rfl⟩) fun u s1 ⟨v, H1, I1, rv, ev, eh⟩ => ?_) ht
  subst ev eh
  obtain rfl : u = Value.ref C := rv
  refine ClX.getmethcm_ok I1 cr cm fun s2 I2 => ?_
  refine ClX.callwith_cm I2 (ClX.base_none I1 (Nat.le_refl _)) cm.fi (thn (ha.run pos _ s2 σ H1 _ I2 (fin_bind (rel := rA X.K) fm q)) fun us s3 ⟨vs, H2, I3, r, O2, ρ2, ds, f2, s2', r2, q2⟩ => ⟨⟨ClX.pin_at I3, I3.kIn⟩, ?_⟩) hst hpl
  obtain ⟨hl, q2⟩ := cond_fin q2
  have dtC : Dt X.K O2 H2 (.kls C) (.ref C) := by unfold Dt; rfl
  -- the bound method's call is the def's, with the class before
  obtain ⟨g, gV, gV2, kb, g1, g2⟩ := bn.ex
  have l1 := len_of r2 hl
  have rr : Vals (V.ref C :: vs) (Value.ref C :: us) := .cons (show L2.RelV (V.ref C) (Value.ref C) from rfl) r
  have hd2 : DtAll X.K O2 H2 (.kls C :: gD ds []) (.ref C :: gV2 vs []) := by
    unfold DtAll
    exact ⟨_, _, rfl, dtC, g2 _ _ _ _ _ _ r2 (by unfold DtAll; rfl)⟩
  have sp : SpF X.K false ps.length F (gV (V.ref C :: vs) []) H2 Q (WE W σ) := by
    rw [g1 _ _ _ l1]
    exact spf_call (rel := rD X.K) rfl ((ar none _ (fun z => by rw [z] at q2; exact q2)).2) f2 hd2 q2
  have r3 := kb.rel rr .nil
  have z : wpAny (model X.prog X.w) X.A (call (.ref s1.heap.objs.size) us) (EP X ((s1.heap.objs.size, PySem.W.methodObj (.ref f) (.ref C)) :: pins) σ Q) X.xe s3 := by
    refine wpAny_call (PySem.W.method_call (ClX.pin_at I3) (codeAny_mono ((Fn.up hj).go X.A X.stack s3 H2 ⟨Value.ref C :: us, ([] : List Str).zip ([] : List Value)⟩ _ _ Q (WE W σ) (fun _ => cn.gu rfl) cn.rm I3.env0 (kb.to s3 (Value.ref C :: us) [] I3.kIn (by rw [List.length_cons, ← r.length, l1]) rfl) r3 sp) fun res s' z => ?_))
    cases res with
    | error e => exact passAt cn.tk σ _ H2 s3 e s' I3 z
    | ok fl =>
      cases fl with
      | ret u => exact I3.after z
      | next => exact z.elim
      | brk => exact z.elim
      | cont => exact z.elim
  exact thn z fun _ _ y => ClX.unpinE y
/-! ### properties -/
structure PrpT (P : Program) (w : World) (K : PySem.W.Frag) (mg : Str → Option Value) (base : Heap) (j : Nat) (nm : Str) (cs : List Addr) (t : KT) : Prop where
  to : ∀ C F, t.lookup C = some F → C ∈ cs ∧ ∃ (p f : Addr) (fd : FuncData) (ps : List Str), ps.length = 1 ∧ FnG P w K mg base j f fd ps (SpF K false 1 F) ∧ PropOf K C nm p f ∧ Binds K fd ps []
theorem PrpT.nil {P : Program} {w : World} {K : PySem.W.Frag} {mg : Str → Option Value} {base : Heap} {nm : Str} : PrpT P w K mg base j nm cs [] := ⟨fun C F h => by cases h⟩
theorem PrpT.cons {P : Program} {w : World} {K : PySem.W.Frag} {mg : Str → Option Value} {base : Heap} {nm : Str} {t : KT} {p f : Addr} {fd : FuncData} {ps : List Str} (r : PrpT P w K mg base j nm cs t) (hC : C ∈ cs) (Fn : FnG P w K mg base k f fd ps (SpF K false ps.length F)) (pr : PropOf K C nm p f) (b : Binds K fd ps []) (hk : k ≤ j := by decide) (hn : ps.length = 1 := by rfl) :
    PrpT P w K mg base j nm cs ((C, F) :: t) := ⟨fun C' F' h => by
  rw [List.lookup_cons] at h
  by_cases e : C' = C
  · subst e
    rw [show (C' == C') = true by simp] at h
    cases h
    rw [hn] at Fn
    exact ⟨hC, p, f, fd, ps, hn, Fn.up hk, pr, b⟩
  · rw [show (C' == C) = false by simpa using e] at h
    exact r.to C' F' h⟩
def prp (t : KT) (d : D) : Option D := match d with
  | .obj C fs => (t.lookup C).bind fun F => foN (F none [d])
  | _ => none
def prpM (t : KT) (f : Mo D) : Mo D := f >>= fun d => Mo.lift (prp t d)
theorem se_prop {t : KT} (M : PrpT X.prog X.w X.K X.mg X.base j m cs t) (kc : Klasses X.K cs) (cn : Cn X W k) (he : PE X e (tE X.K W fo)) (hj : j + 1 ≤ k := by decide) (hab : attributeBase e m X.env (eval e X.env) = eval e X.env := by rfl) : PE X (.Attribute e m pos) (tE X.K W (prpM t fo)) := by
  refine ⟨fun pins s σ H Q I q => ?_⟩
  obtain ⟨φ, O, ρ, fm, q⟩ := q
  refine attr_of hab (thn (he.run pins s σ H _ I (fin_bind (rel := rD X.K) fm q)) fun u s1 ⟨x, H1, I1, rx, O1, ρ1, d, f1, s1', r1, q1⟩ => ?_)
  obtain ⟨r0, er, q9⟩ := fin_lift q1
  clear q1 q
  have dt : Dt X.K O1 H1 d x := r1
  cases d with
  | obj C fs =>
    obtain ⟨F, el, ef⟩ := bind_some er
    have dt' := dt
    unfold Dt at dt'
    obtain ⟨a, dx, vs0, rfl, nO, ea, qf⟩ := dt'
    obtain rfl : u = Value.ref a := rx
    obtain ⟨hC, p, f, fd, ps, hp, Fn, pr, bd⟩ := M.to C F el
    have c := (kc.k C hC).cl
    obtain ⟨mA, OO, _, _, _, _⟩ := ins_get I1.hok ea
    obtain ⟨od, J, _⟩ := OO.look
    obtain ⟨rest, hrec⟩ := pr.rec_
    have I2 := I1.tok (s1.toks + 1)
    have hc : (PySem.W.clsIn X.K C).isSome = true := by
      obtain ⟨cd, hc, _⟩ := PySem.W.any_some c.hd
      rw [hc]
      rfl
    have sp := spf_pure (n := 1) ef rfl f1 (two_dt1 dt)
    have b1 := bd { s1 with toks := s1.toks + 1 } [.ref a] I2.kIn (by rw [List.append_nil, hp]; rfl)
    rw [List.append_nil] at b1
    refine PySem.W.get_bind I1.kIn J (PySem.W.plainGet_of (c.get m)).1 (PySem.W.findObj_data hc pr.at_ pr.get pr.tak) (PySem.W.plainGet_of (c.get m)).2 (wpAny_call (PySem.W.prop_get (s := { s1 with toks := s1.toks + 1 }) I1.kIn hrec ?_))
    refine codeAny_mono (Fn.go X.A.in1 X.stack { s1 with toks := s1.toks + 1 } H1 ⟨[.ref a], []⟩ [.ref a] [.ref a] (fun v H' => Fm X.K φ O1 ρ1 σ H' ∧ Ext H1 H' ∧ Dt X.K O1 H' r0 v) (fun _ _ _ => False) (fun _ => cn.gu rfl) (Room.in1 (cn.rm.mono hj)) I2.env0.in1 b1 (.cons (show L2.RelV (V.ref a) (Value.ref a) from rfl) .nil) sp) fun r s' hq => ?_
    cases r with
    | error er => exact False.elim (passAt (X := X.nox) (W := W0) takes0 σ pins H1 { s1 with toks := s1.toks + 1 } er s' (I2.wish _) hq)
    | ok fl =>
      cases fl with
      | ret u =>
        obtain ⟨v, H', I3, rv, f3, ex, dt3⟩ := I2.after hq
        show wpAny _ _ (handedOut u) _ _ _
        rw [PySem.W.handedOut_of (handed_of rv)]
        exact wpAny_pure ⟨v, H', I3, rv, q9 v O1 H' f3 ex.stp dt3⟩
      | next => exact False.elim hq
      | brk => exact False.elim hq
      | cont => exact False.elim hq
  | _ => cases er
/-! ### fields, of several classes -/
structure FlT (K : PySem.W.Frag) (f : Str) (cs : List Addr) : Prop where
  to : ∀ C ∈ cs, NoAttr K C f
def dFldT (cs : List Addr) (f : Str) (d : D) : Option D := match d with
  | .obj C fs => if C ∈ cs then fs.lookup f else none
  | _ => none
def fldT (cs : List Addr) (f : Str) (m : Mo Pl) : Mo D := m >>= fun q => look q >>= fun d => Mo.lift (dFldT cs f d)
theorem se_fldT {f : Str} {mm : Mo Pl} (kc : Klasses X.K cs) (na : FlT X.K f cs) (he : PE X e (tP X.K W mm)) (hb : attributeBase e f X.env (eval e X.env) = eval e X.env := by rfl) : PE X (.Attribute e f pos) (tE X.K W (fldT cs f mm)) := peI (pe_fld he hb) fun σ H Q q => by
  obtain ⟨φ, O, ρ, fm, q⟩ := q
  refine tX_mono (fin_bind (rel := rP X.K) fm q) fun u H1 ⟨O1, ρ1, p, f1, s1, r1, q1⟩ => ?_
  obtain ⟨d, ld, q1⟩ := fin_look f1 (rP_ok r1) q1
  obtain ⟨r, er, q2⟩ := fin_lift q1
  cases d with
  | obj C fs =>
    have er' : (if C ∈ cs then fs.lookup f else none) = some r := er
    split at er'
    · rename_i hC
      obtain ⟨a, dx, es, rfl, ea, qf⟩ := lk_obj ld
      obtain ⟨w, hw, dw⟩ := dtFs_lookup qf er'
      exact ⟨a, C, dx, es, w, rfl, ea, (kc.k C hC).cl, na.to C hC, hw, q2 w O1 H1 f1 .refl dw⟩
    · cases er'
  | _ => cases er
end
end VS

namespace VS
open PySem PySem.Spec PyProof.Rows L2
/-! ### errors as values -/
theorem instAt_err {P : Program} {w : World} {H : Hp} {h : Heap} {a C : Addr} (ok : HOk P w H h) (e : H a = some (ExO (.ref C) a)) : ∃ ox : Obj, PySem.W.InstAt h a ox C none := by
  have q : ObjOk P w H h a (.ext fun h => ∃ (oe : Obj) (vs : Array Value), h.get? a = some oe ∧ Zc (.ref C) none oe ∧ oe.data = .fields vs ∧ vs[1]? = some .none ∧ vs[2]? = some .none ∧ 4 < vs.size) := ok a _ e
  obtain ⟨oe, vs, ho, hz, hd, _⟩ := q.1
  exact ⟨oe, ho, hz.1, by unfold PySem.W.notCls; rw [hd] <;> rfl, by rw [hz.2]; trivial⟩
theorem instAt_exc {P : Program} {w : World} {H : Hp} {h : Heap} {a C dx : Addr} {es : List (Str × V)} (ok : HOk P w H h) (e : H a = some (exo a C (some dx))) (ed : H dx = some (exd dx es)) :
    ∃ (ox od : Obj) (mA : Str → Option Value), PySem.W.InstAt h a ox C (some od) ∧ (∀ f, RelO (es.lookup f) (mA f)) ∧ ∀ f, PySem.W.lookIn f od = some (mA f) := by
  obtain ⟨t1, ho⟩ := exo_at ok e
  obtain ⟨mA, hns, hr⟩ := exd_at ok ed
  obtain ⟨od, hod, hl⟩ := lookIn_ns hns
  exact ⟨_, od, mA, ⟨ho, rfl, rfl, hod⟩, hr, hl⟩
theorem XOk.kit {K : PySem.W.Frag} {C a : Addr} {ox : Obj} {od : Option Obj} (x : XOk K C) : PySem.W.KitX K (.ref a) (.ref C) (fun h => PySem.W.InstAt h a ox C od) :=
  PySem.W.kitx_exc x.cl x.ga x.gt x.sb x.ha x.hn x.tk x.hm
/-! isinstance -/
def rIsX (K : PySem.W.Frag) : List V → Hp → VK → Prop := fun xs H Q => ∃ (a C : Addr) (c : V) (u : Value) (b : Bool), xs = [.ref a, c] ∧ ClsV c u ∧ XOk K C ∧ (H a = some (ExO (.ref C) a) ∨ ∃ dx es, H a = some (exo a C (some dx)) ∧ H dx = some (exd dx es)) ∧
  PySem.W.kitOne K (.ref C) u = some b ∧ Q (.bl b) H
theorem call_isX {X : Cx} : CallR X (.builtin "isinstance") (rIsX X.K) := by
  intro pins s σ H xs us Q I r h
  obtain ⟨a, C, c, u, b, rfl, k, x, w, e, q⟩ := h
  obtain ⟨u1, u2, rfl, r1, r2⟩ := vals2 r
  have e2 := k.eq r2
  subst e2
  obtain rfl : u1 = Value.ref a := r1
  rcases w with w | ⟨dx, es, w1, w2⟩
  · obtain ⟨ox, J⟩ := instAt_err I.hok w
    exact PySem.W.kia_one x.kit I.kIn J e (fun z => nomatch z) fun tk => ⟨.bl b, H, I.tok tk, rfl, q⟩
  · obtain ⟨ox, od, mA, J, _, _⟩ := instAt_exc I.hok w1 w2
    exact PySem.W.kia_one x.kit I.kIn J e (fun z => nomatch z) fun tk => ⟨.bl b, H, I.tok tk, rfl, q⟩
/-- isinstance(an error, a class) -/
def dIsX (kit : Value → Value → Option Bool) (T : Value) : D → Option D
  | .err C => (kit (.ref C) T).map .bl
  | .exc C _ => (kit (.ref C) T).map .bl
  | _ => none
def isXM (kit : Value → Value → Option Bool) (T : Value) (f : Mo Pl) : Mo D := f >>= fun q => look q >>= fun d => Mo.lift (dIsX kit T d)
theorem isX_ok {K : PySem.W.Frag} {W : WX} {f : Mo Pl} {T : Value} {c : V} {σ : L2.St} {H : Hp} {Q : VK} (k : ClsV c T) (q : tX K W (rD K) (isXM (PySem.W.kitOne K) T f) σ H Q) : tX K W (rP K) f σ H (fun v H1 => rIsX K [v, c] H1 Q) := by
  obtain ⟨φ, O, ρ, fm, q⟩ := q
  refine tX_mono (fin_bind (rel := rP K) fm q) fun v H1 ⟨O1, ρ1, p, f1, s1, r1, q1⟩ => ?_
  obtain ⟨d, ld, q1⟩ := fin_look f1 (rP_ok r1) q1
  obtain ⟨r, er, q1⟩ := fin_lift q1
  have fin : ∀ {C : Addr}, (PySem.W.kitOne K (.ref C) T).map D.bl = some r → ∃ b, PySem.W.kitOne K (.ref C) T = some b ∧ Q (.bl b) H1 := fun {C} e => by
    obtain ⟨b, eb, rfl⟩ := Option.map_eq_some_iff.mp e
    exact ⟨b, eb, q1 (.bl b) O1 H1 f1 .refl dt_bl⟩
  cases d with
  | err C =>
    unfold Lk Dt at ld
    obtain ⟨a, rfl, x, n, e⟩ := ld
    obtain ⟨b, eb, qb⟩ := fin (C := C) er
    exact ⟨a, C, c, T, b, rfl, k, x, .inl e, eb, qb⟩
  | exc C fs =>
    obtain ⟨a, dx, es, rfl, x, n, e, e2, qf⟩ := ld
    obtain ⟨b, eb, qb⟩ := fin (C := C) er
    exact ⟨a, C, c, T, b, rfl, k, x, .inr ⟨dx, es, e, e2⟩, eb, qb⟩
  | _ => cases er
section
variable {X : Cx} {W : WX} {e : Expr} {f : Mo Pl} {p p2 pos : Pos} {x : Str}
theorem se_isXb {T : String} (he : PE X e (tP X.K W f)) (hm : X.mg "isinstance" = none) (hm2 : X.mg x = none) (hv2 : bootBuiltins x = some (.type T) := by decide +kernel) (hg : Gl X "isinstance" := by rfl) (hg2 : Gl X x := by rfl) (hn2 : x ≠ "__name__" := by decide) (hd2 : (x == ("__debug__" : Str)) = false := by decide)
    (hs1 : starEach [e, .Name x p2] X.env = (false, eval e X.env) :: starEach [.Name x p2] X.env := by rfl) (hs2 : starEach [.Name x p2] X.env = (false, eval (.Name x p2) X.env) :: starEach [] X.env := by rfl) (hpl : (backTo pos (starEach [.Name x p2] X.env)).any (·.1) = false := by rfl) :
    PE X (.Call (.Name "isinstance" p) [e, .Name x p2] [] pos) (tE X.K W (isXM (PySem.W.kitOne X.K) (.type T) f)) :=
  peI (pe_callB call_isX hg hm (by decide +kernel) (pa_cons he (pa_cons (pe_bltn hg2 hm2 hv2 (show RelV (.ty T) (.type T) from rfl) hn2 hd2) pa_nil hs2) hs1) (by decide) (by decide) hs1 hpl) fun σ H Q q => isX_ok (.ty T) q
theorem se_isXo {C0 : Addr} (he : PE X e (tP X.K W f)) (hm : X.mg "isinstance" = none) (hm2 : X.mg x = some (.ref C0)) (hg : Gl X "isinstance" := by rfl) (hg2 : Gl X x := by rfl) (hd2 : (x == ("__debug__" : Str)) = false := by decide)
    (hs1 : starEach [e, .Name x p2] X.env = (false, eval e X.env) :: starEach [.Name x p2] X.env := by rfl) (hs2 : starEach [.Name x p2] X.env = (false, eval (.Name x p2) X.env) :: starEach [] X.env := by rfl) (hpl : (backTo pos (starEach [.Name x p2] X.env)).any (·.1) = false := by rfl) :
    PE X (.Call (.Name "isinstance" p) [e, .Name x p2] [] pos) (tE X.K W (isXM (PySem.W.kitOne X.K) (.ref C0) f)) :=
  peI (pe_callB call_isX hg hm (by decide +kernel) (pa_cons he (pa_cons (pe_glob hg2 hm2 (show RelV (.ref C0) (.ref C0) from rfl) hd2) pa_nil hs2) hs1) (by decide) (by decide) hs1 hpl) fun σ H Q q => isX_ok (.own C0) q
end
/-! ### an attribute of an error -/
/-- which attributes the errors' classes do not define -/
def XNo (K : PySem.W.Frag) (C : Addr) (f : Str) : Prop := PySem.W.findIn K (.ref C) f = some none ∧ PySem.W.hasDictIn K C = true
def dXf (C0 : Addr) (f : Str) : D → Option D
  | .exc C fs => if C = C0 then fs.lookup f else none
  | _ => none
def xfM (C0 : Addr) (f : Str) (m : Mo Pl) : Mo D := m >>= fun q => look q >>= fun d => Mo.lift (dXf C0 f d)
section
variable {X : Cx} {W : WX} {e v : Expr} {m : Mo Pl} {g : Mo D} {p pos pos' : Pos} {f x : Str} {C : Addr}
theorem se_xf (nx : XNo X.K C f) (he : PE X e (tP X.K W m)) (hb : attributeBase e f X.env (eval e X.env) = eval e X.env := by rfl) : PE X (.Attribute e f pos) (tE X.K W (xfM C f m)) := by
  refine ⟨fun pins s σ H Q I q => ?_⟩
  obtain ⟨φ, O, ρ, fm, q⟩ := q
  refine attr_of hb (thn (he.run pins s σ H _ I (fin_bind (rel := rP X.K) fm q)) fun u s1 ⟨v, H1, I1, rv, O1, ρ1, pl, f1, s1', r1, q1⟩ => ?_)
  obtain ⟨d, ld, q1⟩ := fin_look f1 (rP_ok r1) q1
  obtain ⟨r, er, q2⟩ := fin_lift q1
  cases d with
  | exc C' fs =>
    have er' : (if C' = C then fs.lookup f else none) = some r := er
    split at er'
    · rename_i ec
      subst ec
      obtain ⟨a, dx, es, rfl, xk, n, ea, ed, qf⟩ := ld
      obtain rfl : u = Value.ref a := rv
      obtain ⟨w, hw, dw⟩ := dtFs_lookup qf er'
      obtain ⟨ox, od, mA, J, hr, hl⟩ := instAt_exc I1.hok ea ed
      obtain ⟨y, hy, ry⟩ := RelO.some_of (v := w) (o := mA f) (by rw [← hw]; exact hr f)
      exact HandSPX.exc_get I1.kIn J xk.ga xk.gt xk.sb (PySem.W.findObj_own nx.2 nx.1 rfl (by rw [hl, hy])) (handed_of ry) ⟨w, H1, I1.tok _, ry, q2 w O1 H1 f1 .refl (dw.step (Stp.less fun b z => .inl z))⟩
    · cases er'
  | _ => cases er
end
end VS

set_option maxHeartbeats 4000000
namespace VS
open PySem
abbrev xobj (C t : Addr) (d : Option Addr) : Obj := { cls := .ref C, dict := d, data := .fields #[.ref t, .none, .none, .none, .bool false, .none] }
/-! ### an error's class whose maker stands further up (KeyError: LookupError's) -/
/-- what must be true of the bases -/
structure BOk (bm : List Value) (B : String) : Prop where
  b : bm.contains (.type B) = true
  a : bm.contains (.type "AttributeError") = false
  n : bm.contains (.type "NameError") = false
section
open Builtin Builtin.ObjectAttr
variable {prog : Program} {w : World} {A : Around} {E : Value → Shared → Prop} {R : Result → Shared → Prop} {h : Heap} {g : Array GenState} {d : Drawn} {t : Nat} {os : OsState}
variable {nm q : Str} {C N : Addr} {bs bm bmN : List Value} {hd : Bool} {sn : List Str} {sub : List Value} {ab : Bool} {col : Option Bool} {dd : Option Addr} {k0 k1 k2 k3 k5 : Option Value} {B nid iid : String} {us : List Value}
theorem BOk.up {c : Value} (o : BOk bm B) (hc : ∀ X : String, (Value.type X == c) = false) : BOk (c :: bm) B :=
  ⟨by rw [List.contains_cons, o.b, Bool.or_true], by rw [List.contains_cons, o.a, hc]; rfl, by rw [List.contains_cons, o.n, hc]; rfl⟩
theorem mk_check {M : Model} {Q : Unit → Shared → Prop} (Fb : ExcBaseFacts B nid iid bmN) (o : BOk bm B) (hK : h.get? C = some (excClassObj nm q C N bs bm hd sn sub ab col dd k0 k1 k2 k3 k5 nid)) (z : Q () ⟨h, g, d, t, os⟩) : wpAny M A (checkBuiltinCall nid ⟨.ref C :: us, []⟩) Q E ⟨h, g, d, t, os⟩ := by
  have c1 := (o.up (c := .ref C) fun X => rfl).b
  have c2 := Fb.noStar
  simp only [checkBuiltinCall, Fb.newKind, Fb.newSplit, Fb.newRow]; repeat (first | refine wpAny_loadPart_at hK ?_ | (refine wpAny_isSubtype_exc hK ?_; rw [c1]) | refine wpAny_staticBase_exc hK ?_ | refine wpAny_madeBy_exc hK ?_ | simp only [bne_self_eq_false, Bool.false_eq_true, if_false] | wp_step)
  exact z
theorem mk_new (Fb : ExcBaseFacts B nid iid bmN) (o : BOk bm B) (hK : h.get? C = some (excClassObj nm q C N bs bm hd sn sub ab col dd k0 k1 k2 k3 k5 nid)) (many : us.length ≤ sizeLine)
    (z : R (.ok (.ret (.ref (h.objs.size + 1)))) ⟨(h.push { cls := .type "tuple", data := .seq us.toArray }).push (xobj C h.objs.size none), g, d, t, os⟩) : codeAny (model prog w) A (.builtin nid ⟨.ref C :: us, []⟩) R ⟨h, g, d, t, os⟩ := by
  have e0 := Fb.ends
  obtain ⟨c1, c2, c3⟩ := o.up (c := .ref C) fun X => rfl
  refine codeAny_builtinAt Fb.entry ?_; unfold Builtin.«BaseException.__new__»; refine wpAt_bind ?_
  show wpAt _ _ _ (stack >>= _) _ _ _
  refine wpAt_bind (wpAt_stack fun p below => wpAt_of_wpAny ?_); wp_walk
  refine wpAt_of_wpAny ?_; rw [Fb.owner]
  repeat (first | with_reducible refine wpAny_madeHere_exc Fb.canon hK ?_ | with_reducible refine wpAny_loadPart_at hK ?_ | (with_reducible refine wpAny_isSubtype_exc hK ?_; first | rw [c1] | rw [c2] | rw [c3]) | wp_step)
  show R _ _
  rw [Heap.size_push]
  exact z
theorem mk_type {f : Addr} {Q : Fin → Shared → Prop} (Fb : ExcBaseFacts B nid iid bmN) (o : BOk bm B) (hK : h.get? C = some (excClassObj nm q C N bs bm hd sn sub ab col dd k0 k1 k2 k3 k5 nid)) (many : us.length ≤ sizeLine) (hi : W.Looks (model prog w) h (typeLookup (.ref C) "__init__") (some (.ref f)))
    (hb : ∀ x, W.Looks (model prog w) h (bindSpecial (.ref f) x) (.ref f, [x])) (z : codeAny (model prog w) A (.call (.ref f) ⟨.ref (h.objs.size + 1) :: us, []⟩) (fun r s' => match r with | .ok (.ret v) => v = .none ∧ Q (.done (.ret (.ref (h.objs.size + 1)))) s' | .ok _ => False | .error e => E e s') ⟨(h.push (W.kdv_tup us)).push (xobj C h.objs.size none), g, d, t, os⟩) :
    wpAny (model prog w) A (Builtin.«type.__call__» ⟨.ref C :: us, []⟩) Q E ⟨h, g, d, t, os⟩ := by
  repeat (first | with_reducible refine wpAny_loadPart_at hK ?_ | with_reducible refine wpAny_madeBy_exc hK ?_ | wp_step)
  refine codeAny_call_builtin_code (Code.quiet_builtin _ Fb.quiet) (mk_check Fb o hK (mk_new Fb o hK many ?_)); show wpAny _ _ _ _ _ _
  have kp : ∀ b u, h.get? b = some u → ((h.push (W.kdv_tup us)).push (xobj C h.objs.size none)).get? b = some u := fun b u e => Heap.get?_push_of_some _ (Heap.get?_push_of_some _ e)
  have hK2 := kp _ _ hK
  have at1 : ((h.push (W.kdv_tup us)).push (xobj C h.objs.size none)).get? (h.objs.size + 1) = some (xobj C h.objs.size none) := by heap_get
  have own : (Value.ref C :: bm).contains (.ref C) = true := by simp
  have i1 := hi.keeps kp
  have b1 := (hb (.ref (h.objs.size + 1))).keeps kp
  unfold isInstance; repeat (first | with_reducible refine wpAny_loadPart_at at1 ?_ | (with_reducible refine wpAny_isSubtype_exc hK2 ?_; rw [own]) | wp_step)
  show wpAny _ _ (typeLookup (.ref C) _) _ _ _
  refine i1.at ?_
  refine wpAny_holding (wpAny_bind (b1.at (wpAny_bind (wpAny_call (codeAny_mono z fun r s' y => ?_)))))
  rcases r with e | (v | _ | _ | _) <;> first | exact y | exact y.elim | skip
  obtain ⟨rfl, y⟩ := y
  first | exact wpAny_pure (wpAny_pure y) | (wp_walk; exact y)
theorem mk_call {f : Addr} (Fb : ExcBaseFacts B nid iid bmN) (o : BOk bm B) (hK : h.get? C = some (excClassObj nm q C N bs bm hd sn sub ab col dd k0 k1 k2 k3 k5 nid)) (many : us.length ≤ sizeLine) (hi : W.Looks (model prog w) h (typeLookup (.ref C) "__init__") (some (.ref f)))
    (hb : ∀ x, W.Looks (model prog w) h (bindSpecial (.ref f) x) (.ref f, [x])) (z : codeAny (model prog w) (A.under (.builtin "type.__call__" ⟨.ref C :: us, []⟩)) (.call (.ref f) ⟨.ref (h.objs.size + 1) :: us, []⟩) (W.InitBack (h.objs.size + 1) R) ⟨(h.push (W.kdv_tup us)).push (xobj C h.objs.size none), g, d, t, os⟩) :
    codeAny (model prog w) A (.call (.ref C) ⟨us, []⟩) R ⟨h, g, d, t, os⟩ := by
  have l1 := PySem.tc_lookup
  have l2 := PySem.tc_bind (.ref C)
  have ty : (⟨h, g, d, t, os⟩ : Shared).TypeIs (.ref C) "type" := ⟨_, hK, rfl⟩
  refine codeAny_of_tree ?_; show wpAny _ _ (callAny (.ref C) _) _ _ _
  repeat (any_goals (first | assumption | with_reducible refine wpAny_loadPart_at hK ?_ | wp_step))
  refine ⟨rfl, codeAny_call_builtin_at (Code.quiet_builtin _ (by decide +kernel)) PySem.entry_typeCall (wpAny_check_type_call_sub hK (mk_type Fb o hK many hi hb (codeAny_mono z fun r s' y => ?_)))⟩
  rcases r with e | (v | _ | _ | _) <;> exact y
end
theorem store_KeyError : StoreFacts "KeyError" [.type "KeyError", .type "LookupError", .type "Exception", .type "BaseException", .type "object"] "object.__setattr__" "object" :=
  { mro := by kernel_rfl
    slot := .of (owner := "object") (n := "__setattr__") (by rw [typeLookup_type, builtinLookup_eq_fast]; kernel_rfl) (by decide +kernel) (by decide +kernel) (by decide +kernel) (by first | exact .inl (by decide +kernel) | exact .inr (by decide +kernel)) (by rw [isSubtype_type]; kernel_rfl)
    entry := PySem.F.entry_object_sa, kind := by decide +kernel, split := by decide +kernel, hasOwner := by decide +kernel
    args := fun a b c => by unfold argsOk; kernel_rfl
    passes := fun self => by kernel_rfl }
end VS

namespace VS
variable {gf : Bool}
open PySem PySem.Spec PyProof.Rows L2
/-! ### self.f = v, the first field of an error -/
structure XSt (K : PySem.W.Frag) (C : Addr) (f : Str) : Prop where
  ex : ∃ B bmB, StoreFacts B bmB "object.__setattr__" "object" ∧ PySem.W.excOver K C bmB = true
  ht : PySem.W.takerIn K C f = some none
  hh : PySem.W.hasDictIn K C = true
  hs : PySem.W.findIn K (.ref C) "__setattr__" = some (some (.builtin "object.__setattr__"))
theorem exd_ext {H : Hp} {a dx : Addr} {u v : HO} {e : HO} (ne : dx ≠ a) : upd (upd (upd H dx u) a e) dx v = upd (upd H dx v) a e := by
  funext b
  by_cases h1 : b = dx
  · subst h1
    rw [upd_same, upd_ne ne, upd_same]
  · rw [upd_ne h1]
    by_cases h2 : b = a
    · subst h2; rw [upd_same, upd_same]
    · rw [upd_ne h2, upd_ne h2, upd_ne h1, upd_ne h1]
theorem xset {X : Cx} {pins : List (Addr × Obj)} {σ : L2.St} {H : Hp} {s : Shared} {a C : Addr} {f : Str} {y : V} {u : Value} {Q : Unit → Shared → Prop} {E : Value → Shared → Prop} {A : Around} (T : XSt X.K C f) (I : Inv X pins σ H s) (e : H a = some (exo a C none)) (ry : RelV y u)
    (h : ∀ dx s', H dx = none → dx ≠ a → Inv X pins σ (upd (upd H dx (exd dx [(f, y)])) a (exo a C (some dx))) s' → Q () s') : wpAny (model X.prog X.w) A (setAttr (.ref a) f u) Q E s := by
  obtain ⟨B, bmB, SF, ov⟩ := T.ex
  obtain ⟨t1, ho⟩ := exo_at I.hok e
  obtain ⟨cd, hc, hd⟩ := PySem.W.any_some T.hh
  obtain ⟨hp, g, d, t, os⟩ := s
  have lt := Heap.lt_size ho
  have nx : hp.objs.size ≠ a := Nat.ne_of_gt lt
  refine PySem.W.set_plain (od := none) I.kIn (ox := xobj C t1 none) ⟨ho, rfl, rfl, trivial⟩ T.hs (PySem.W.osa_openX (od := none) (ox := xobj C t1 none) SF I.kIn ⟨ho, rfl, rfl, trivial⟩ ov T.ht fun b => ?_)
  refine wpAny_bind (wpAny_pure (wpAny_bind (PySem.W.instanceDict_exc (c2 := .none) ho (PySem.W.looks_clsIn I.kIn hc) hd ?_)))
  have e1 : (hp.push (PySem.W.dictOf [] 0)).get? hp.objs.size = some (PySem.W.dictOf [] 0) := Heap.get?_push_size hp rfl
  have I1 := I.laid (a := hp.objs.size) (o := exd hp.objs.size []) (h' := hp.push (PySem.W.dictOf [] 0)) (t' := t) (fun b u q => Heap.get?_push_of_some _ q) (Nat.le_refl _)
    (exd_ok (fs := []) (mA := fun _ => none) (Heap.Ns1.of_empty ⟨_, #[], _, e1, rfl, fun e he => absurd he (by simp), fun _ => rfl⟩) fun _ => True.intro)
  have a1 : (hp.push (PySem.W.dictOf [] 0)).get? a = some (xobj C t1 none) := Heap.get?_push_of_some _ ho
  have a2 : ((hp.push (PySem.W.dictOf [] 0)).update a fun o => { o with dict := some hp.objs.size }).get? a = some (xobj C t1 (some hp.objs.size)) := Heap.get?_update_self _ a1 rfl
  have d2 : ((hp.push (PySem.W.dictOf [] 0)).update a fun o => { o with dict := some hp.objs.size }).get? hp.objs.size = some (PySem.W.dictOf [] 0) := (Heap.get?_update_ne _ _ _ _ nx).trans e1
  have hn := I.hok.fresh (a := hp.objs.size) (Nat.le_refl _)
  have I2 := I1.write (x := a) (e := a) (o := exo a C (some hp.objs.size)) (h' := (hp.push (PySem.W.dictOf [] 0)).update a fun o => { o with dict := some hp.objs.size }) (t' := t) (by rw [upd_ne (Ne.symm nx), e]; exact True.intro) (.inl rfl)
    (fun b o hb z => (Heap.get?_update_ne _ _ _ _ hb).trans z) ⟨_, a2⟩ (exo_ok a2)
  show wpAny _ _ (Builtin.ObjectAttr.storeInDict hp.objs.size (.str f t) f u) _ _ _
  refine HandSPX.store_in_new (hp := (hp.push (PySem.W.dictOf [] 0)).update a fun o => { o with dict := some hp.objs.size }) (tk := t) ⟨_, #[], _, d2, rfl, fun e he => absurd he (by simp), fun _ => rfl⟩ fun h' tk' hn' sb => ?_
  have I3 := I2.write (x := hp.objs.size) (e := hp.objs.size) (o := exd hp.objs.size [(f, y)]) (h' := h') (t' := tk') (by rw [upd_ne nx, upd_same]; exact True.intro) (.inl rfl)
    (fun b o hb z => (sb.2 b hb).trans z) (by obtain ⟨o, _, _, q, _⟩ := hn'; exact ⟨o, q⟩) (exd_ok hn' (relO_put (fs := []) ry fun g => True.intro))
  rw [exd_ext nx] at I3
  exact h _ _ hn nx I3
def stXfR (i : Nat) (C : Addr) (f : Str) (d : D) (ρ : List Sl) : Option Sl → Rs Out
  | some (.iox j (.exn C')) => if C' = C then .ok .nx (ρ.set i (.iox j (.exc C [(f, d)]))) else .no
  | _ => .no
def stXfM (i : Nat) (C : Addr) (f : Str) (g : Mo D) : Mo Out := g >>= fun d => fun ρ => stXfR i C f d ρ ρ[i]?
theorem ss_xf {X : Cx} {W : WX} {v : Expr} {g : Mo D} {p pos pos' : Pos} {f x : Str} {C : Addr} (i : Nat) (T : XSt X.K C f) (hv : PE X v (tE X.K W g)) (hN : X.N[i]? = some x := by rfl) (hvis : Vis X.env.scope x := by first | exact Or.inl rfl | exact Or.inr (Or.inl rfl) | exact Or.inr (Or.inr rfl)) (hdb : (x == ("__debug__" : Str)) = false := by decide)
    (hcd : (x == ("__classdict__" : Str)) = false := by decide) (hs : swapsWith v (some (.Attribute (.Name x p) f pos)) pos'.line X.env = pure false := by rfl) : PS X (.Assign [.Attribute (.Name x p) f pos] v pos') (tS X.K W (stXfM i C f g)) := by
  refine ⟨fun pins s σ H Dn I q => ?_⟩
  obtain ⟨φ, O, ρ, fm, q⟩ := q
  have q' : tX X.K W (rD X.K) g σ H (fun v H1 => ∃ O1 ρ1 a, Fm X.K φ O1 ρ1 σ H1 ∧ Stp O H O1 H1 ∧ rD X.K φ σ O1 H1 ρ1 a v ∧ sfin X.K W φ (fun ρ => stXfR i C f a ρ ρ[i]?) O1 ρ1 H1 σ Dn) := by
    refine ⟨φ, O, ρ, fm, ?_⟩
    unfold sfin at q
    rw [show stXfM i C f g ρ = (g ρ).thn (fun d ρ => stXfR i C f d ρ ρ[i]?) from bind_eq _ _ _] at q
    unfold fin
    cases hm : g ρ with
    | no => rw [hm] at q; exact q
    | ok d ρ1 =>
      rw [hm] at q
      intro w O1 H1 f1 s1 r1
      exact ⟨O1, ρ1, d, f1, s1, r1, sfin_step (σ0 := σ) s1 q⟩
    | ex e ρ1 =>
      rw [hm] at q
      intro cc dd O1 H1 f1 s1 xc
      exact q cc dd σ O1 H1 f1 s1 xc
  refine plainObj_wpAny_Assign_Attribute (thn (hv.run pins s σ H _ I q') fun u s1 ⟨y, H1, I1, ry, O1, ρ1, d, f1, s1', r1, q1⟩ => ?_) hs
  unfold sfin at q1
  dsimp only at q1
  cases es : ρ1[i]? with
  | none => rw [es] at q1; exact q1.elim
  | some t =>
    rw [es] at q1
    cases t with
    | iox j0 d0 =>
      cases d0 with
      | exn C' =>
        have e1 : stXfR i C f d ρ1 (some (.iox j0 (.exn C'))) = (if C' = C then Rs.ok Out.nx (ρ1.set i (.iox j0 (.exc C [(f, d)]))) else Rs.no) := rfl
        rw [e1] at q1
        by_cases hc : C' = C
        · rw [if_pos hc] at q1
          subst hc
          obtain ⟨a, ea, ev, oa, xk, ha⟩ := f1.slot i _ es
          refine thn ((pe_var (i := i) (pos := p) hN hvis hdb hcd).run pins s1 σ H1 (fun v H2 => v = .ref a ∧ H2 = H1) I1 ⟨.ref a, ev, rfl, rfl⟩) fun u2 s2 ⟨v2, H2, I2, r2, e2, e3⟩ => ?_
          subst e2 e3
          obtain rfl : u2 = Value.ref a := r2
          refine xset T I2 ha ry fun dx s3 hdx ne I3 => ⟨σ, _, I3, ?_⟩
          have nO : ¬ O1 dx := fun z => by obtain ⟨o, e⟩ := f1.here dx z; rw [hdx] at e; cases e
          have ex : Ext H2 (upd H2 dx (exd dx [(f, y)])) := Ext.new hdx
          have f2 := f1.ext ex
          have st2 : Stp O1 (upd H2 dx (exd dx [(f, y)])) O1 (upd (upd H2 dx (exd dx [(f, y)])) a (exo a C' (some dx))) := stp_mut oa
          have st : Stp O1 H2 O1 (upd (upd H2 dx (exd dx [(f, y)])) a (exo a C' (some dx))) := ex.stp.trans st2
          have dt : Dt X.K O1 H2 d y := r1
          have f3 := f2.mut (d' := .exc C' [(f, d)]) (t := .iox j0 (.exc C' [(f, d)])) es trivial ev (o := exo a C' (some dx)) ⟨dx, [(f, y)], xk, nO, upd_same, by rw [upd_ne ne, upd_same], by unfold DtFs; exact ⟨y, [], rfl, (dt.step (stp_new hdx)).step st2.plus, by unfold DtFs; rfl⟩⟩ (.inr ⟨_, _, rfl, rfl⟩)
          exact q1 σ O1 _ f3 st
        · rw [if_neg hc] at q1; exact q1.elim
      | _ => exact q1.elim
    | _ => exact q1.elim
/-! ### making errors -/
/-- a class of errors with an own __init__ -/
structure XMk (P : Program) (w : World) (K : PySem.W.Frag) (mg : Str → Option Value) (base : Heap) (j : Nat) (C : Addr) (m : Nat) (F : FF) (gf : Bool := false) : Prop where
  ex : ∃ (B newId initId : String) (bmN bmB : List Value) (f : Addr) (fd : FuncData) (ps : List Str), ExcBaseFacts B newId initId bmN ∧ PySem.W.excInitIn K C bmB newId = true ∧ BOk bmB B ∧ PySem.W.findIn K (.ref C) "__init__" = some (some (.ref f)) ∧ PySem.W.typeIn K (.ref f) = some (.type "function") ∧
    FnG P w K mg base j f fd ps (SpF K false ps.length F) gf ∧ Binds K fd ps [] ∧ Ar F true m ∧ ps.length = m + 1
  ok : XOk K C
  kp : PySem.W.keepIn K (.ref C) = true
theorem xmk_at {K : PySem.W.Frag} {C : Addr} {bmB : List Value} {newId : String} (q : PySem.W.excInitIn K C bmB newId = true) (h : Heap) (X : K.In h) : ∃ nm N qn bs bm hdct sn sub ab col dd k0 k1 k2 k3 k5, h.get? C = some (excClassObj nm qn C N bs bm hdct sn sub ab col dd k0 k1 k2 k3 k5 newId) ∧ ∀ X : String, bm.contains (.type X) = bmB.contains (.type X) :=
  PySem.W.excInit_of X q
theorem run_makeX {X : Cx} {W : WX} {k : Nat} {f C : Addr} {fd : FuncData} {ps : List Str} {sp : Sp} {B newId initId : String} {bmN bmB : List Value} {pins : List (Addr × Obj)} {σ : L2.St} {H : Hp} {s : Shared} {Q : VK} {us : List Value} {vs : List V} (FB : ExcBaseFacts B newId initId bmN) (ei : PySem.W.excInitIn X.K C bmB newId = true) (bo : BOk bmB B)
    (fi : PySem.W.findIn X.K (.ref C) "__init__" = some (some (.ref f))) (tI : PySem.W.typeIn X.K (.ref f) = some (.type "function")) (F : FnG X.prog X.w X.K X.mg X.base k f fd ps sp gf) (cn : Cn X W (k + 1) gf) (hb : Binds X.K fd ps []) (I : Inv X pins σ H s) (r : Vals vs us) (hl : vs.length + 1 = ps.length) (hz : vs.length ≤ 1000)
    (h : ∀ x, H x = none → sp (.ref x :: vs) (upd H x (exo x C none)) (fun v H2 => v = .non ∧ Q (.ref x) H2) (WE W σ)) :
    wpAny (model X.prog X.w) X.A (call (.ref C) us) (EP X pins σ Q) X.xe s := by
  obtain ⟨nm, N', qn, bs, bm, hdct, sn, sub, ab, col, dd, k0, k1, k2, k3, k5, hC, hT⟩ := xmk_at ei _ I.kIn
  obtain ⟨hp, g, dr, tk, os⟩ := s
  have up : ∀ b o, hp.get? b = some o → ((hp.push (PySem.W.kdv_tup us)).push (xobj C hp.objs.size none)).get? b = some o := fun b o e => Heap.get?_push_of_some _ (Heap.get?_push_of_some _ e)
  have at1 : ((hp.push (PySem.W.kdv_tup us)).push (xobj C hp.objs.size none)).get? (hp.objs.size + 1) = some (xobj C hp.objs.size none) := by
    have q := Heap.get?_push_size (hp.push (PySem.W.kdv_tup us)) (o := xobj C hp.objs.size none) rfl
    rwa [Heap.size_push] at q
  have I2 : Inv X pins σ (upd H (hp.objs.size + 1) (exo (hp.objs.size + 1) C none)) ⟨(hp.push (PySem.W.kdv_tup us)).push (xobj C hp.objs.size none), g, dr, tk, os⟩ :=
    I.laid (a := hp.objs.size + 1) (o := exo (hp.objs.size + 1) C none) (h' := (hp.push (PySem.W.kdv_tup us)).push (xobj C hp.objs.size none)) (t' := tk) up (Nat.le_succ _) (exo_ok at1)
  have hq := h (hp.objs.size + 1) (I.hok.fresh (Nat.le_succ _))
  have r2 : Vals (V.ref (hp.objs.size + 1) :: vs) (Value.ref (hp.objs.size + 1) :: us) := .cons rfl r
  have many : (Value.ref (hp.objs.size + 1) :: us).length = ps.length := by rw [← r2.length]; exact hl
  have hus : us.length ≤ sizeLine := by rw [← r.length, sizeLine_eq]; omega
  have hb' := hb { heap := (hp.push (PySem.W.kdv_tup us)).push (xobj C hp.objs.size none), gens := g, drawn := dr, toks := tk, os := os } (Value.ref (hp.objs.size + 1) :: us) I2.kIn (by rw [List.append_nil]; exact many)
  rw [List.append_nil] at hb'
  refine wpAny_call (mk_call FB ⟨(hT _).trans bo.b, (hT _).trans bo.a, (hT _).trans bo.n⟩ hC hus (PySem.W.looks_findIn I.kIn fi) (fun self => PySem.W.bind_fn I.kIn self tI)
    (codeAny_mono (F.go _ X.stack _ _ ⟨Value.ref (hp.objs.size + 1) :: us, []⟩ (Value.ref (hp.objs.size + 1) :: us) _ _ (WE W σ) (fun z => make_guards.trans (cn.gu z)) (cn.rm.make C us []) (I2.env0.make C us []) hb' r2 hq) fun res s' hq' => ?_))
  cases res with
  | error er => exact passAt cn.tk σ pins _ _ er s' I2 hq'
  | ok fl =>
    cases fl with
    | ret u =>
      obtain ⟨v, H', I3, rv, ev, q3⟩ := I2.after hq'
      subst ev
      exact ⟨rv, ⟨V.ref (hp.objs.size + 1), H', I3, rfl, q3⟩⟩
    | next => exact False.elim hq'
    | brk => exact False.elim hq'
    | cont => exact False.elim hq'
/-- C(..), C a class of errors with an own __init__ -/
def makeX (C : Addr) (n : Nat) (F : FF) (g : Mo (List D)) : Mo D := g >>= fun ds => bif ds.length == n && n.ble 1000 then mkR (F (some (.exn C)) ds) else (fun _ => .no)
theorem spf_makeX {K : PySem.W.Frag} {W : WX} {C : Addr} {n m : Nat} {F : FF} {φ : Fx} {O : Ow} {ρ : List Sl} {σ : L2.St} {H : Hp} {ds : List D} {vs : List V} {Q : VK} {x : Addr} (xk : XOk K C) (ar : Ar F true m) (hn : n = m + 1) (fm : Fm K φ O ρ σ H) (hd : DtAll K O H ds vs) (hx : H x = none)
    (q : fin K W (rD K) φ (mkR (F (some (.exn C)) ds)) σ O ρ H Q) : SpF K false n F (.ref x :: vs) (upd H x (exo x C none)) (fun v H2 => v = .non ∧ Q (.ref x) H2) (WE W σ) := by
  have ex : Ext H (upd H x (exo x C none)) := Ext.new hx
  have nO : ¬ O x := fun z => by
    obtain ⟨o, e⟩ := fm.here x z
    rw [hx] at e; cases e
  have st : Stp O H (plus O x) (upd H x (exo x C none)) := stp_new hx
  have hl : F (some (.exn C)) ds ≠ .no := fun e => by rw [e] at q; exact q
  have ln := (ar _ _ hl).2
  refine ⟨plus O x, some x, some (.exn C), ds, vs, rfl, by rw [hn, ← ln, dtAll_len hd]; rfl, fun a z => ?_, ⟨.inr rfl, xk, upd_same⟩, hd.step st, ?_⟩
  · rcases z with z | z
    · obtain ⟨o, e⟩ := fm.here a z
      exact ⟨o, ex _ _ e⟩
    · subst z; exact ⟨_, upd_same⟩
  have back : ∀ {H' : Hp}, (∀ b o, (some x : Option Addr) ≠ some b → (upd H x (exo x C none)) b = some o → H' b = some o) → Ext H H' := fun kp b o e => kp b o (fun z => by cases z; rw [hx] at e; cases e) (ex b o e)
  cases eF : F (some (.exn C)) ds with
  | no => exact hl eF
  | ex xx io' =>
    rw [eF] at q
    intro c dd H' kp io xc
    have ext := back kp
    exact q c dd O H' (fm.ext ext) ext.stp (xc_less xc fun b z => .inl z)
  | ok r io' =>
    rw [eF] at q
    intro v H' kp io dt
    have ext := back kp
    rw [if_neg (by decide)] at dt
    cases io' with
    | none => exact io.elim
    | some d' =>
      cases r with
      | non =>
        have ev : v = .non := by unfold Dt at dt; exact dt
        subst ev
        refine ⟨rfl, ?_⟩
        have q' : fin K W (rD K) φ (bif d'.isDct then (fun _ => .no) else pure d' : Mo D) σ O ρ H Q := q
        cases hdc : d'.isDct with
        | true => rw [hdc] at q'; exact q'.elim
        | false =>
          rw [hdc] at q'
          exact q' (.ref x) O H' (fm.ext ext) ext.stp ((Own.less io.2 fun b z => .inl z).dt nO hdc)
      | _ => exact q.elim
section
variable {X : Cx} {W : WX} {k j n : Nat} {C : Addr} {F : FF} {x : Str} {p pos : Pos} {e : Expr} {es : List Expr} {g : Mo (List D)} {f : Mo D}
theorem se_makeX (M : XMk X.prog X.w X.K X.mg X.base j C n F gf) (cn : Cn X W k gf) (hm : X.mg x = some (.ref C)) (ha : PA X (e :: es) (tA X.K W g)) (hj : j + 1 ≤ k := by decide) (hg : Gl X x := by rfl) (hdb : (x == ("__debug__" : Str)) = false := by decide) (he : starEach (e :: es) X.env = (false, eval e X.env) :: starEach es X.env := by rfl) (hpl : (backTo pos (starEach es X.env)).any (·.1) = false := by rfl) :
    PE X (.Call (.Name x p) (e :: es) [] pos) (tE X.K W (makeX C n F g)) := by
  refine ⟨fun pins s σ H Q I q => ?_⟩
  obtain ⟨φ, O, ρ, fm, q⟩ := q
  refine wpAny_Call_Name_kw (ld_glob I hg hm ?_ hdb)
  refine PySem.W.callWith_K (h₀ := X.base) I.ok.mod.kin M.kp (thn (ha.run pos pins s σ H _ I (fin_bind (rel := rA X.K) fm q)) fun us s1 ⟨vs, H1, I1, r, O1, ρ1, ds, f1, s1', r1, q1⟩ => ⟨I1.kIn, ?_⟩) he hpl
  obtain ⟨B, newId, initId, bmN, bmB, fI, fd, ps, FB, ei, bo, fi, tI, Fn, bd, ar, hp⟩ := M.ex
  obtain ⟨hb, q1⟩ := cond_fin q1
  rw [Bool.and_eq_true] at hb
  have l1 := len_of r1 hb.1
  have hz := Nat.le_of_ble_eq_true hb.2
  exact run_makeX FB ei bo fi tI Fn (cn.lo hj) bd I1 r (by rw [hp, l1]) (by rw [l1]; exact hz) fun a ha => spf_makeX M.ok ar hp f1 r1 ha q1
/-- C(e), C a class of errors without an own __init__ -/
structure XPl (K : PySem.W.Frag) (C : Addr) : Prop where
  ex : ∃ (B newId initId : String) (bmB : List Value), ExcBaseFacts B newId initId bmB ∧ PySem.W.excIn K C bmB newId = true
  ok : XOk K C
  kp : PySem.W.keepIn K (.ref C) = true
def errM (C : Addr) (f : Mo D) : Mo D := f >>= fun _ => pure (.err C)
theorem se_err (M : XPl X.K C) (hm : X.mg x = some (.ref C)) (he : PE X e (tE X.K W f)) (hg : Gl X x := by rfl) (hs : starEach [e] X.env = (false, eval e X.env) :: starEach [] X.env := by rfl) (hdb : (x == ("__debug__" : Str)) = false := by decide) : PE X (.Call (.Name x p) [e] [] pos) (tE X.K W (errM C f)) := by
  obtain ⟨B, newId, initId, bmB, FB, ei⟩ := M.ex
  refine peI (pe_exc1 FB ei hm M.kp hg he hs hdb) fun σ H Q q => ?_
  obtain ⟨φ, O, ρ, fm, q⟩ := q
  refine tX_mono (fin_bind (rel := rD X.K) fm q) fun v H1 ⟨O1, ρ1, d, f1, s1, r1, q1⟩ => fun a ha => ?_
  have nO : ¬ O1 a := fun z => by obtain ⟨o, e⟩ := f1.here a z; rw [ha] at e; cases e
  have ex : Ext H1 (upd H1 a (ExO (.ref C) a)) := Ext.new ha
  exact q1 (.ref a) O1 _ (f1.ext ex) ex.stp (by show Dt X.K _ _ (.err C) _; unfold Dt; exact ⟨a, rfl, M.ok, nO, upd_same⟩)
end
end VS

namespace VS
open PySem PySem.Spec PyProof.Rows L2
/-! ### what is never reached -/
section
variable {X : Cx} {W : WX} {st : Stmt} {sts : List Stmt} {e : Expr}
theorem ss_never : PS X st (tS X.K W (fun _ => .no)) := ⟨fun pins s σ H Dn I q => by obtain ⟨φ, O, ρ, f, q⟩ := q; exact q.elim⟩
theorem sss_never : PSs X sts (tS X.K W (fun _ => .no)) := ⟨fun pins s σ H Dn I q => by obtain ⟨φ, O, ρ, f, q⟩ := q; exact q.elim⟩
theorem se_never : PE X e (tE X.K W (fun _ => .no)) := ⟨fun pins s σ H Q I q => by obtain ⟨φ, O, ρ, f, q⟩ := q; exact q.elim⟩
end
/-! ### sorted, texts -/
def leS (a b : Str) : Bool := !ltCps b.cps.toList a.cps.toList
def insS (x : Str) : List Str → List Str
  | [] => [x]
  | y :: r => if leS x y = true then x :: y :: r else y :: insS x r
def sortS : List Str → List Str
  | [] => []
  | x :: r => insS x (sortS r)
theorem leS_iff {a b : Str} : leS a b = true ↔ a.cps.toList ≤ b.cps.toList := by
  unfold leS
  rw [ltCps_eq, Bool.not_eq_true', decide_eq_false_iff_not]
  exact List.not_lt
theorem leS_total {a b : Str} (h : ¬ leS a b = true) : leS b a = true := by
  rw [leS_iff] at h ⊢
  exact (List.le_total _ _).resolve_left h
theorem leS_trans {a b c : Str} (h1 : leS a b = true) (h2 : leS b c = true) : leS a c = true := by
  rw [leS_iff] at h1 h2 ⊢
  exact List.le_trans h1 h2
theorem leS_anti {a b : Str} (h1 : leS a b = true) (h2 : leS b a = true) : a = b := by
  rw [leS_iff] at h1 h2
  exact Str.ext' (Array.toList_inj.mp (List.le_antisymm h1 h2))
abbrev SrtS (l : List Str) : Prop := l.Pairwise fun a b => leS a b = true
theorem insS_mem {x y : Str} : ∀ {l : List Str}, y ∈ insS x l ↔ y = x ∨ y ∈ l
  | [] => by simp [insS]
  | z :: r => by
    unfold insS
    split
    · simp
    · rw [List.mem_cons, insS_mem, List.mem_cons]
      exact ⟨fun h => by rcases h with h | h | h <;> simp [h], fun h => by rcases h with h | h | h <;> simp [h]⟩
theorem insS_perm (x : Str) : ∀ l : List Str, (insS x l).Perm (x :: l)
  | [] => .refl _
  | z :: r => by
    unfold insS
    split
    · exact .refl _
    · exact ((insS_perm x r).cons z).trans (.swap x z r)
theorem insS_srt {x : Str} : ∀ {l : List Str}, SrtS l → SrtS (insS x l)
  | [], _ => List.pairwise_singleton _ _
  | z :: r, h => by
    obtain ⟨h1, h2⟩ := List.pairwise_cons.mp h
    unfold insS
    split
    · rename_i q
      exact List.pairwise_cons.mpr ⟨fun y hy => by
        rcases List.mem_cons.mp hy with rfl | hy
        · exact q
        · exact leS_trans q (h1 y hy), h⟩
    · rename_i q
      exact List.pairwise_cons.mpr ⟨fun y hy => by
        rcases insS_mem.mp hy with rfl | hy
        · exact leS_total q
        · exact h1 y hy, insS_srt h2⟩
theorem sortS_perm : ∀ l : List Str, (sortS l).Perm l
  | [] => .refl _
  | x :: r => (insS_perm x _).trans ((sortS_perm r).cons x)
theorem sortS_srt : ∀ l : List Str, SrtS (sortS l)
  | [] => List.Pairwise.nil
  | x :: r => insS_srt (sortS_srt r)
theorem srtS_of : ∀ {l : List Str}, sortedS l = true → SrtS l
  | [], _ => List.Pairwise.nil
  | x :: r, h => by
    have gen : ∀ (r : List Str) (p : Str), risingS p r = true → SrtS (p :: r) := by
      intro r
      induction r with
      | nil => exact fun p _ => List.pairwise_singleton _ _
      | cons y r ih =>
        intro p h
        unfold risingS at h
        rw [Bool.and_eq_true] at h
        have t := ih y h.2
        have py : leS p y = true := h.1
        refine List.pairwise_cons.mpr ⟨fun z hz => ?_, t⟩
        rcases List.mem_cons.mp hz with rfl | hz
        · exact py
        · exact leS_trans py ((List.pairwise_cons.mp t).1 z hz)
    exact gen r x h
theorem sortS_uniq {xs ys : List Str} (p : ys.Perm xs) (s : sortedS ys = true) : ys = sortS xs :=
  List.Perm.eq_of_pairwise (fun a b _ _ h1 h2 => leS_anti h1 h2) (srtS_of s) (sortS_srt xs) (p.trans (sortS_perm xs).symm)
def dSorted : List D → Option D
  | [.lst ds] => match txts ds with
    | some xs => if xs.length < 64 then some (.lst ((sortS xs).map .str)) else none
    | none => none
  | _ => none
theorem dtAll_strs {K : PySem.W.Frag} {O : Ow} {H : Hp} : ∀ {xs : List Str}, DtAll K O H (xs.map .str) (xs.map V.str)
  | [] => by unfold DtAll; rfl
  | x :: r => by
    show DtAll K O H (.str x :: r.map .str) (V.str x :: r.map V.str)
    unfold DtAll
    exact ⟨_, _, rfl, by unfold Dt; rfl, dtAll_strs⟩
theorem sem_sorted {K : PySem.W.Frag} : CSem K (rSortedS K) dSorted := fun O H vs ds d Q l e here q => by
  unfold dSorted at e
  split at e
  · split at e
    · split at e
      · rename_i us xs et hl
        cases e
        obtain ⟨v, rfl, l'⟩ := lk1 l
        obtain ⟨a, ws, rfl, ha, qa⟩ := l'
        have ev := txts_vs qa et
        subst ev
        refine ⟨a, xs, rfl, SqL.of ha, hl, fun ys p pm st hp => ?_⟩
        rw [sortS_uniq pm st]
        have nO : ¬ O p := fun z => by obtain ⟨o, e⟩ := here p z; rw [hp] at e; cases e
        exact q (.ref p) _ (Ext.new hp) (by unfold Dt; exact ⟨p, _, rfl, nO, upd_same, dtAll_strs⟩)
      · cases e
    · cases e
  · cases e
/-! ### what comes of these -/
section
variable {ρ : List Sl} {R : Ex → List Sl → Prop} {Qd : D → List Sl → Prop} {Qo : Out → List Sl → Prop}
@[simp] theorem wp_isXM {kit : Value → Value → Option Bool} {T : Value} {f : Mo Pl} : wp (isXM kit T f) ρ Qd R = wp f ρ (fun p ρ1 => wp (look p) ρ1 (fun d ρ2 => wp (Mo.lift (dIsX kit T d)) ρ2 Qd R) R) R := by unfold isXM; simp
@[simp] theorem wp_xfM {C : Addr} {f : Str} {m : Mo Pl} : wp (xfM C f m) ρ Qd R = wp m ρ (fun p ρ1 => wp (look p) ρ1 (fun d ρ2 => wp (Mo.lift (dXf C f d)) ρ2 Qd R) R) R := by unfold xfM; simp
@[simp] theorem wp_errM {C : Addr} {f : Mo D} : wp (errM C f) ρ Qd R = wp f ρ (fun _ ρ1 => Qd (.err C) ρ1) R := by unfold errM; simp
theorem wp_mkR {r : Fo} (h : onU r (fun x u => x = .non ∧ u.isDct = false ∧ Qd u ρ) (fun e _ => R e ρ)) : wp (mkR r) ρ Qd R := by
  cases r with
  | no => unfold onU at h; exact h.elim
  | ex e io => cases io with
    | none => unfold onU at h; exact h.elim
    | some u => unfold onU at h; unfold wp; exact h
  | ok x io => cases io with
    | none => unfold onU at h; exact h.elim
    | some u =>
      unfold onU at h
      obtain ⟨rfl, h2, h3⟩ := h
      show wp (bif u.isDct then (fun _ => .no) else pure u : Mo D) ρ Qd R
      rw [h2]
      show wp (pure u : Mo D) ρ Qd R
      rw [wp_pure]
      exact h3
theorem wp_makeX {C : Addr} {n : Nat} {F : FF} {g : Mo (List D)} (hn : n.ble 1000 = true) (h : wp g ρ (fun ds ρ1 => ds.length = n ∧ onU (F (some (.exn C)) ds) (fun x u => x = .non ∧ u.isDct = false ∧ Qd u ρ1) (fun e _ => R e ρ1)) R) : wp (makeX C n F g) ρ Qd R := by
  unfold makeX
  rw [wp_bind]
  refine wp_mono h fun ds ρ1 ⟨h1, h2⟩ => ?_
  have e : (ds.length == n && n.ble 1000) = true := by rw [h1, hn]; simp
  rw [e]
  exact wp_mkR h2
@[simp] theorem wp_stXfM {i : Nat} {C : Addr} {f : Str} {g : Mo D} : wp (stXfM i C f g) ρ Qo R = wp g ρ (fun d ρ1 => wpR (stXfR i C f d ρ1 ρ1[i]?) Qo R) R := by
  have e := wp_bind (ρ := ρ) (Q2 := Qo) (R := R) (m := g) (k := fun d => (fun ρ => stXfR i C f d ρ ρ[i]? : Mo Out))
  unfold wp at e ⊢
  exact e
@[simp] theorem stXfR_exn {i : Nat} {C : Addr} {f : Str} {d : D} : stXfR i C f d ρ (some (.iox 0 (.exn C))) = .ok .nx (ρ.set i (.iox 0 (.exc C [(f, d)]))) := by
  show (if C = C then _ else _) = _
  rw [if_pos rfl]
end
end VS

namespace VS
variable {gf : Bool}
open PySem PySem.Spec PyProof.Rows L2
/-! ### raise C(..), C with an own __init__ -/
/-- the error itself is let go -/
theorem mk_drop {X : Cx} {pins : List (Addr × Obj)} {σ : L2.St} {H1 H2 : Hp} {s1 s2 : Shared} {hp2 : Heap} {a C d : Addr} (I : Inv X pins σ H1 s1) (ha : s1.heap.objs.size ≤ a) (up : ∀ b o, s1.heap.get? b = some o → hp2.get? b = some o)
    (un : Un (frs X.stack) [] (upd H1 a (exo a C none)) H2 hp2 s2.heap) (hok : HOk X.prog X.w H2 s2.heap) (os : s2.os = s1.os) (gb : AllBare s2.gens) (ea : H2 a = some (exo a C (some d))) :
    ∃ (t : Addr) (G : Heap), Inv X pins σ (del H2 a) { s2 with heap := G } ∧ (∀ b o, G.get? b = some o → s2.heap.get? b = some o) ∧ G.get? a = none ∧ s2.heap.get? a = some (xobj C t (some d)) ∧ del H2 a a = none := by
  obtain ⟨t, at'⟩ := exo_at hok ea
  have n1 : H1 a = none := I.hok.fresh ha
  obtain ⟨G, gk, gn⟩ := restrict s2.heap fun b => decide (b ≠ a)
  have keep : ∀ b, b ≠ a → G.get? b = s2.heap.get? b := fun b hb => gk b (decide_eq_true hb)
  have ga : G.get? a = none := gn a (by simp)
  have old : ∀ {b : Addr} {o : Obj}, s1.heap.get? b = some o → b ≠ a := fun {b o} e => Nat.ne_of_lt (Nat.lt_of_lt_of_le (Heap.lt_size e) ha)
  have non : ∀ {b : Addr}, b ≠ a → H1 b = none → upd H1 a (exo a C none) b = none := fun {b} hb e => (upd_ne hb).trans e
  have U : Un (frs X.stack) [] H1 (del H2 a) s1.heap G := {
    keep := fun b o e n hf hx => (keep b (old e)).trans (un.keep b o (up b o e) (non (old e) n) hf hx)
    slot := fun b o e n hf hx => (un.slot b o (up b o e) (non (old e) n) hf hx).imp fun sl q => (keep b (old e)).trans q
    free := fun b o e n hx => (del_ne (old e)).trans (un.free b o (up b o e) (non (old e) n) hx)
    there := fun b o e hx => (un.there b o (up b o e) hx).imp fun u q => (keep b (old e)).trans q
    tups := fun b xs e => (del_ne (ne_of_none e n1)).trans (un.tups b xs ((upd_ne (ne_of_none e n1)).trans e))
    frzs := fun b o v e => (del_ne (ne_of_none e n1)).trans (un.frzs b o v ((upd_ne (ne_of_none e n1)).trans e))
    tbls := fun b ps e => (un.tbls b ps ((upd_ne (ne_of_none e n1)).trans e)).imp fun m q => (del_ne (ne_of_none e n1)).trans q }
  have hok2 : HOk X.prog X.w (del H2 a) G := fun b o e => by
    have hb : b ≠ a := fun z => by rw [z, del_same] at e; cases e
    rw [del_ne hb] at e
    refine (hok b o e).stay (fun c v hc q => (keep c ?_).trans q) (fun c q => (del_ne (at_ne ea q exo_own)).trans q) fun c xs q => (del_ne (at_ne ea q exo_tup)).trans q
    rcases hc with z | z
    · rw [z]; exact hb
    · exact at_ne ea z exo_own
  refine ⟨t, G, I.call' (s' := { s2 with heap := G }) (ch := []) os U hok2 gb (fun b z => absurd z (by simp)), fun b o e => ?_, ga, at', del_same⟩
  by_cases hb : b = a
  · rw [hb, ga] at e; cases e
  · exact (keep b hb).symm.trans e
def raiseX (C : Addr) (n : Nat) (F : FF) (g : Mo (List D)) : Mo Out := g >>= fun ds => bif ds.length == n && n.ble 1000 then (match F (some (.exn C)) ds with
    | .ok .non (some (.exc C' fs)) => (fun ρ => if C' = C then .ex ⟨.ref C, some fs⟩ ρ else .no)
    | _ => fun _ => .no) else (fun _ => .no)
theorem ss_raiseX {X : Cx} {W : WX} {k j n : Nat} {C : Addr} {F : FF} {x : Str} {p pos rpos : Pos} {e : Expr} {es : List Expr} {g : Mo (List D)} (M : XMk X.prog X.w X.K X.mg X.base j C n F gf) (cn : Cn X W k gf) (hm : X.mg x = some (.ref C)) (ty : PySem.W.typeIn X.K (.ref C) = some (.type "type"))
    (ha : PA X (e :: es) (tA X.K W g)) (hj : j + 1 ≤ k := by decide) (hg : Gl X x := by rfl) (hdb : (x == ("__debug__" : Str)) = false := by decide) (he : starEach (e :: es) X.env = (false, eval e X.env) :: starEach es X.env := by rfl) (hpl : (backTo pos (starEach es X.env)).any (·.1) = false := by rfl) :
    PS X (.Raise (some (.Call (.Name x p) (e :: es) [] pos)) none rpos) (tS X.K W (raiseX C n F g)) := by
  obtain ⟨B, nid, iid, bmN, bmB, fI, fd, ps, FB, ei, bo, fi, tI, Fn, bd, ar, hp⟩ := M.ex
  refine psI (ps_raise cn.cm cn.tk (e := .Call (.Name x p) (e :: es) [] pos) (t := fun σ H Q => tX X.K W (rA X.K) g σ H fun vs H1 => ∃ φ O ρ ds fs, Fm X.K φ O ρ σ H1 ∧ DtAll X.K O H1 ds vs ∧ ds.length = n ∧ n ≤ 1000 ∧ F (some (.exn C)) ds = .ok .non (some (.exc C fs)) ∧
    ∀ c dd H', Fm X.K φ O ρ σ H' → Stp O H1 O H' → Xc X.K O H' ⟨.ref C, some fs⟩ c dd → Q c dd H') fun pins s σ H Q I h => ?_) fun Dn σ H h => ?_
  · refine wpAny_Call_Name_kw (ld_glob I hg hm ?_ hdb)
    refine PySem.W.callWith_K (h₀ := X.base) I.ok.mod.kin M.kp (thn (ha.run pos pins s σ H _ I h) fun us s1 ⟨vs, H1, I1, r, φ, O, ρ, ds, fs, fm, hd, l1, hz, eF, q⟩ => ⟨I1.kIn, ?_⟩) he hpl
    obtain ⟨nm, N', qn, bs, bm, hdct, sn, sub, ab, col, dd, k0, k1, k2, k3, k5, hC, hT⟩ := xmk_at ei _ I1.kIn
    obtain ⟨h0, gg, dr, tk, os⟩ := s1
    have up : ∀ b o, h0.get? b = some o → ((h0.push (PySem.W.kdv_tup us)).push (xobj C h0.objs.size none)).get? b = some o := fun b o e => Heap.get?_push_of_some _ (Heap.get?_push_of_some _ e)
    have at1 : ((h0.push (PySem.W.kdv_tup us)).push (xobj C h0.objs.size none)).get? (h0.objs.size + 1) = some (xobj C h0.objs.size none) := by
      have q := Heap.get?_push_size (h0.push (PySem.W.kdv_tup us)) (o := xobj C h0.objs.size none) rfl
      rwa [Heap.size_push] at q
    have I2 : Inv X pins σ (upd H1 (h0.objs.size + 1) (exo (h0.objs.size + 1) C none)) ⟨(h0.push (PySem.W.kdv_tup us)).push (xobj C h0.objs.size none), gg, dr, tk, os⟩ :=
      I1.laid (a := h0.objs.size + 1) (o := exo (h0.objs.size + 1) C none) (h' := (h0.push (PySem.W.kdv_tup us)).push (xobj C h0.objs.size none)) (t' := tk) up (Nat.le_succ _) (exo_ok at1)
    have hx : H1 (h0.objs.size + 1) = none := I1.hok.fresh (Nat.le_succ _)
    have nO : ¬ O (h0.objs.size + 1) := fun z => by obtain ⟨o, e⟩ := fm.here _ z; rw [hx] at e; cases e
    have ex : Ext H1 (upd H1 (h0.objs.size + 1) (exo (h0.objs.size + 1) C none)) := Ext.new hx
    have st : Stp O H1 (plus O (h0.objs.size + 1)) (upd H1 (h0.objs.size + 1) (exo (h0.objs.size + 1) C none)) := stp_new hx
    have hl : vs.length = n := by rw [← dtAll_len hd]; exact l1
    have hus : us.length ≤ sizeLine := by rw [← r.length, hl, sizeLine_eq]; omega
    have hsp : SpF X.K false ps.length F (.ref (h0.objs.size + 1) :: vs) (upd H1 (h0.objs.size + 1) (exo (h0.objs.size + 1) C none)) (fun v H2 => v = .non ∧ ∃ d, H2 (h0.objs.size + 1) = some (exo (h0.objs.size + 1) C (some d)) ∧ Q (.ref C) (some d) (del H2 (h0.objs.size + 1))) (fun _ _ _ => False) := by
      refine ⟨plus O (h0.objs.size + 1), some (h0.objs.size + 1), some (.exn C), ds, vs, rfl, by rw [hp, ← hl]; rfl, fun a z => ?_, ⟨.inr rfl, M.ok, upd_same⟩, hd.step st, ?_⟩
      · rcases z with z | z
        · obtain ⟨o, e⟩ := fm.here a z
          exact ⟨o, ex _ _ e⟩
        · subst z; exact ⟨_, upd_same⟩
      rw [eF]
      intro v H' kp io dt
      rw [if_neg (by decide)] at dt
      have ev : v = .non := by unfold Dt at dt; exact dt
      obtain ⟨_, dx, es', xk, n2, r1, r2, qf⟩ := io
      refine ⟨ev, dx, r1, q (.ref C) (some dx) (del H' (h0.objs.size + 1)) ?_ ?_ ⟨rfl, dx, es', rfl, fun z => n2 (.inl z), ?_, ?_⟩⟩
      all_goals have ne : dx ≠ h0.objs.size + 1 := fun z => n2 (.inr z)
      · exact fm.ext fun b o e => by
          have hb : b ≠ h0.objs.size + 1 := ne_of_none e hx
          rw [del_ne hb]; exact kp b o (fun z => hb (Option.some.inj z).symm) ((upd_ne hb).trans e)
      · exact Ext.stp fun b o e => by
          have hb : b ≠ h0.objs.size + 1 := ne_of_none e hx
          rw [del_ne hb]; exact kp b o (fun z => hb (Option.some.inj z).symm) ((upd_ne hb).trans e)
      · rw [del_ne ne]; exact r2
      · exact qf.step ⟨fun b o z e => by rw [del_ne (fun w => z (.inl (.inr w)))]; exact e, fun b z => .inl (.inl (.inl z))⟩
    have r3 : Vals (V.ref (h0.objs.size + 1) :: vs) (Value.ref (h0.objs.size + 1) :: us) := .cons rfl r
    have many : (Value.ref (h0.objs.size + 1) :: us).length = ps.length := by rw [← r3.length, hp, ← hl]; rfl
    have hb' := bd { heap := (h0.push (PySem.W.kdv_tup us)).push (xobj C h0.objs.size none), gens := gg, drawn := dr, toks := tk, os := os } (Value.ref (h0.objs.size + 1) :: us) I2.kIn (by rw [List.append_nil]; exact many)
    rw [List.append_nil] at hb'
    refine wpAny_call (mk_call FB ⟨(hT _).trans bo.b, (hT _).trans bo.a, (hT _).trans bo.n⟩ hC hus (PySem.W.looks_findIn I1.kIn fi) (fun self => PySem.W.bind_fn I1.kIn self tI)
      (codeAny_mono (Fn.go _ X.stack _ _ ⟨Value.ref (h0.objs.size + 1) :: us, []⟩ (Value.ref (h0.objs.size + 1) :: us) _ _ (fun _ _ _ => False) (fun z => make_guards.trans (cn.gu z)) ((cn.lo hj).rm.make C us []) (I2.env0.make C us []) hb' r3 hsp) fun res s' hq' => ?_))
    cases res with
    | error er =>
      obtain ⟨_, _, _, _, _, _, _, _, _, _, _, _, w⟩ := hq'
      exact w.elim
    | ok fl =>
      cases fl with
      | ret u =>
        obtain ⟨v, H2, os2, bare2, un2, hok2, rv, ev, d, ea, q2⟩ := hq'
        subst ev
        obtain ⟨t, G, J, kG, ge, hoe, na⟩ := mk_drop (s2 := s') I1 (Nat.le_succ _) up un2 hok2 os2 bare2 ea
        exact ⟨rv, _, _, _, { s' with heap := G }, _, .ref C, some d, rfl, J, kG, ge, hoe, ⟨rfl, rfl⟩, rfl, rfl, na, rfl, bare2, raises_own M.ok.sb ty, q2⟩
      | next => exact False.elim hq'
      | brk => exact False.elim hq'
      | cont => exact False.elim hq'
  · obtain ⟨φ, O, ρ, fm, h⟩ := h
    refine tX_mono (sfin_bind (rel := rA X.K) fm h) fun vs H1 ⟨O1, ρ1, ds, f1, s1, r1, q⟩ => ?_
    cases hb : (ds.length == n && n.ble 1000) with
    | false => rw [hb] at q; exact q.elim
    | true =>
      rw [hb] at q
      rw [Bool.and_eq_true] at hb
      cases eF : F (some (.exn C)) ds with
      | no => rw [eF] at q; exact q.elim
      | ex _ _ => rw [eF] at q; exact q.elim
      | ok r io =>
        rw [eF] at q
        cases r with
        | non =>
          cases io with
          | none => exact q.elim
          | some d =>
            cases d with
            | exc C' fs =>
              by_cases hc : C' = C
              · subst hc
                refine ⟨φ, O1, ρ1, ds, fs, f1, r1, beq_iff_eq.mp hb.1, Nat.le_of_ble_eq_true hb.2, eF, fun c dd H' f2 s2 xc => ?_⟩
                have q' : sfin X.K W φ (fun ρ => if C' = C' then Rs.ex ⟨.ref C', some fs⟩ ρ else Rs.no : Mo Out) O1 ρ1 H1 σ Dn := q
                unfold sfin at q'
                have ef : (fun ρ => if C' = C' then Rs.ex ⟨.ref C', some fs⟩ ρ else Rs.no : Mo Out) ρ1 = Rs.ex ⟨.ref C', some fs⟩ ρ1 := if_pos rfl
                rw [ef] at q'
                exact q' c dd σ O1 H' f2 s2 xc
              · have q' : sfin X.K W φ (fun ρ => if C' = C then Rs.ex ⟨.ref C, some fs⟩ ρ else Rs.no : Mo Out) O1 ρ1 H1 σ Dn := q
                unfold sfin at q'
                have ef : (fun ρ => if C' = C then Rs.ex ⟨.ref C, some fs⟩ ρ else Rs.no : Mo Out) ρ1 = Rs.no := if_neg hc
                rw [ef] at q'
                exact q'.elim
            | _ => exact q.elim
        | _ => exact q.elim
end VS

namespace VS
variable {gf : Bool}
open PySem PySem.Spec PyProof.Rows L2
/-! ### except C as e: return (e.f,) -/
/-- in an except suite: an attribute of what is caught -/
def tXq (a : Addr) (d : Option Addr) (f : Str) (te : TE) : TE := fun σ H Q => te σ H fun x H1 => x = .ref a ∧ ∃ dd es v, d = some dd ∧ H1 dd = some (exd dd es) ∧ es.lookup f = some v ∧ Q v H1
theorem pe_xq {X : Cx} {a C : Addr} {oe : Obj} {d : Option Addr} {pn : List (Addr × Obj)} {e : Expr} {te : TE} {pos : Pos} {f : Str} (xk : XOk X.K C) (nx : XNo X.K C f) (hz : Zc (.ref C) d oe) (hf : ∃ vs, oe.data = .fields vs) (he : PE (X.suite a ((a, oe) :: pn)) e te)
    (hb : attributeBase e f X.env (eval e X.env) = eval e X.env) : PE (X.suite a ((a, oe) :: pn)) (.Attribute e f pos) (tXq a d f te) := by
  refine ⟨fun pins s σ H Q I h => ?_⟩
  refine attr_of hb (thn (he.run pins s σ H _ I h) fun u s1 ⟨x, H1, I1, rx, ex, dd, es, v, ed, ea, l, q⟩ => ?_)
  subst ex ed
  obtain rfl : u = Value.ref a := rx
  have ha := (I1.pin (a, oe) (List.mem_append_left _ List.mem_cons_self)).1
  obtain ⟨vs, hd⟩ := hf
  obtain ⟨mA, hns, hr⟩ := exd_at I1.hok ea
  obtain ⟨od, ho, hl⟩ := lookIn_ns hns
  obtain ⟨y, hy, ry⟩ := RelO.some_of (v := v) (o := mA f) (by rw [← l]; exact hr f)
  have J : PySem.W.InstAt s1.heap a oe C (some od) := ⟨ha, hz.1, by unfold PySem.W.notCls; rw [hd] <;> rfl, by rw [hz.2]; exact ho⟩
  exact HandSPX.exc_get I1.kIn J xk.ga xk.gt xk.sb (PySem.W.findObj_own nx.2 nx.1 rfl (by rw [hl, hy])) (handed_of ry) ⟨v, H1, I1.tok _, ry, q⟩
def caughtM (C : Addr) (f : Str) (i : Nat) (e : Ex) (ρ : List Sl) : Rs Out := match e.cls with
  | .ref C' => if C' = C ∧ i < ρ.length then (match e.fs with
    | some fs => match fs.lookup f with
      | some d => .ok (.rt (.tup [d])) (ρ.set i .no)
      | none => .no
    | none => .no) else .no
  | _ => .no
def tryFM (cov : Value → Option Bool) (C : Addr) (f : Str) (i : Nat) (b : Mo Out) : Mo Out := fun ρ => match b ρ with
  | .no => .no
  | .ok o ρ' => .ok o ρ'
  | .ex e ρ' => match cov e.cls with
    | some true => caughtM C f i e ρ'
    | some false => .ex e ρ'
    | none => .no
theorem caught_ok {C : Addr} {f : Str} {i : Nat} {e : Ex} {ρ : List Sl} (h : caughtM C f i e ρ ≠ .no) : i < ρ.length ∧ ∃ fs d, e = ⟨.ref C, some fs⟩ ∧ fs.lookup f = some d ∧ caughtM C f i e ρ = .ok (.rt (.tup [d])) (ρ.set i .no) := by
  obtain ⟨c, fo⟩ := e
  cases c with
  | ref C' =>
    have e0 : ∀ r, caughtM C f i ⟨.ref C', r⟩ ρ = (if C' = C ∧ i < ρ.length then (match r with
      | some fs => match fs.lookup f with
        | some d => .ok (.rt (.tup [d])) (ρ.set i .no)
        | none => .no
      | none => .no) else .no) := fun r => rfl
    rw [e0] at h ⊢
    by_cases hc : C' = C ∧ i < ρ.length
    · rw [if_pos hc] at h ⊢
      obtain ⟨rfl, hl0⟩ := hc
      refine ⟨hl0, ?_⟩
      cases fo with
      | none => exact absurd rfl h
      | some fs =>
        dsimp only at h ⊢
        cases hl : fs.lookup f with
        | none => rw [hl] at h; exact absurd rfl h
        | some d => exact ⟨fs, d, rfl, hl, rfl⟩
    · rw [if_neg hc] at h; exact absurd rfl h
  | _ => exact absurd rfl h
theorem ss_tryF {X : Cx} {W : WX} {k : Nat} {x n f : Str} {C : Addr} {i : Nat} {body : List Stmt} {np pos pos' p1 p2 p3 p4 : Pos} {x1} {b : Mo Out} (hx : X.mg x = some (.ref C)) (xk : XOk X.K C) (nx : XNo X.K C f) (cn : Cn X W k gf) (hs : X.stack = X.env :: X.outer) (hf : X.env.frame = some X.env.locals) (hN : X.N.Nodup)
    (hb : ∀ (W' : WX) (pn : List (Addr × Obj)) (xe : Value → Shared → Prop), Cn (X.tr pn xe) W' k gf → PSs (X.tr pn xe) body (tS X.K W' b)) (hi : X.N[i]? = some n := by rfl) (hln : X.env.kindOf n = some .local := by rfl) (hg : Gl X x := by rfl) (hdb : (x == ("__debug__" : Str)) = false := by decide)
    (hdn : (n == ("__debug__" : Str)) = false := by decide) (hcd : (n == ("__classdict__" : Str)) = false := by decide) (hab : attributeBase (.Name n p1) f X.env (eval (.Name n p1) X.env) = eval (.Name n p1) X.env := by rfl) :
    PS X (.Try body [.ExceptHandler (some (.Name x np)) (some n) [.Return (some (.Tuple [.Attribute (.Name n p1) f p2] x1 p3)) p4] pos'] [] [] pos) (tS X.K W (tryFM (fun e => PySem.W.exmOne X.K e (.ref C)) C f i b)) := by
  refine psI (ps_try_as (c := .ref C) (tb := fun W' => tS X.K W' b) (ts := fun a cls d D σ H => cls = .ref C ∧ σ[i]? = some (some (.ref a)) ∧ ∃ dd es v, d = some dd ∧ H dd = some (exd dd es) ∧ es.lookup f = some v ∧ ∀ p, H p = none → D.rt (.ref p) (upd H p (.tup [v]))) hs hf hN hi hln ⟨hg, hdb, .inl hx⟩ cn.tk
    (fun W' pn xe tk po => hb W' pn xe ⟨tk, po, cn.gu, cn.rm, cn.cm, cn.sy⟩) (fun a oe cls d pn hz hfv => ?_)) fun Dn σ H h => ?_
  · refine ⟨fun pins s σ H D I ⟨ec, es, dd, es', v, e1, e2, e3, q⟩ => ?_⟩
    subst ec
    have r : PSs (X.suite a ((a, oe) :: pn)) [.Return (some (.Tuple [.Attribute (.Name n p1) f p2] x1 p3)) p4] _ := pss_one (ps_ret (pe_tup (pa_cons (pe_xq (pos := p2) xk nx hz hfv (pe_var (pos := p1) (i := i) hi (Or.inl hln) hdn hcd) hab) pa_nil)))
    refine r.run pins s σ H D I ?_
    exact ⟨.ref a, es, rfl, dd, es', v, e1, e2, e3, by show 1 ≤ sizeLine; decide, q⟩
  · obtain ⟨φ, O, ρ, fm, h⟩ := h
    refine ⟨φ, O, ρ, fm, ?_⟩
    unfold sfin tryFM at h
    unfold sfin
    cases e : b ρ with
    | no => rw [e] at h; exact h
    | ok o ρ' => rw [e] at h; exact h
    | ex x ρ' =>
      rw [e] at h
      dsimp only at h ⊢
      intro c' dd σ' O' H' f' s' xc
      have ec : c' = x.cls := xc.1
      cases ev : PySem.W.exmOne X.K x.cls (.ref C) with
      | none => rw [ev] at h; exact h.elim
      | some v =>
        rw [ev] at h
        refine ⟨v, by rw [ec]; exact ev, fun hv a na => ?_, fun hv => ?_⟩
        · subst hv
          dsimp only at h
          by_cases hno : caughtM C f i x ρ' = .no
          · rw [hno] at h; exact h.elim
          · obtain ⟨hl0, fs, d, rfl, hl, eq⟩ := caught_ok hno
            rw [eq] at h
            obtain ⟨_, dd', es', rfl, nO, ex, qf⟩ := xc
            obtain ⟨w, hw, dw⟩ := dtFs_lookup qf hl
            have hlen : i < σ'.length := by rw [← f'.len]; exact hl0
            refine ⟨ec, List.getElem?_set_self hlen, dd', es', w, rfl, ex, hw, fun p hp => ?_⟩
            have ext : Ext H' (upd H' p (.tup [w])) := Ext.new hp
            have np : ¬ O' p := fun z => by obtain ⟨o, e⟩ := f'.here p z; rw [hp] at e; cases e
            exact h (.ref p) _ O' _ (f'.ext ext |>.wipe1 (i := i) (x := some (.ref a))) (s'.trans ext.stp) (by unfold Dt; exact ⟨p, [w], rfl, .inl ⟨np, upd_same⟩, by unfold DtAll; exact ⟨w, [], rfl, dw.step ext.stp, by unfold DtAll; rfl⟩⟩)
        · subst hv
          exact h c' dd σ' O' H' f' s' xc
end VS

namespace VS
variable {gf : Bool}
open PySem PySem.Spec PyProof.Rows L2
/-! ### yield from a list -/
section
variable {prog : Program} {w : World} {A : Around} {E : Value → Shared → Prop} {s : Shared}
theorem lsi_item {it a : Addr} {i : Nat} {vs : Array Value} {x : Value} {Q : Option Value → Shared → Prop} (h1 : s.heap.IsListIter it a i) (h2 : s.heap.IsList a vs) (hx : vs[i]? = some x) (q : ∀ h', h'.IsListIter it a (i + 1) → Heap.SameBut it s.heap h' → Q (some x) { s with heap := h' }) :
    wpAny (model prog w) A (callSpecial? (.ref it) "__next__") Q E s := by
  obtain ⟨u, hu, cu, du⟩ := id h1
  obtain ⟨l, hl, _, m, dl⟩ := h2
  refine wpAny_callSpecial?_slot (name := Str.ofString "__next__") h1.typeIs slot_listiter_next (wpAny_call_entry slot_listiter_next h1.typeIs entry_listiter_next ?_ (args_listiter_next _))
  show wpAny _ _ (field (.ref it) 0 >>= _) _ _ s; refine wpAny_bind (wpAny_field hu du (x := .ref a) rfl ?_)
  show wpAny _ _ (if (Value.ref a == Value.none) = true then _ else _) _ _ s; rw [if_neg (show ¬ ((Value.ref a == Value.none) = true) by simp)]
  show wpAny _ _ (field (.ref it) 1 >>= _) _ _ s; refine wpAny_bind (wpAny_field hu du (x := .int i 0) rfl ?_)
  show wpAny _ _ (seqItems? (.ref a) >>= _) _ _ s; refine wpAny_bind (wpAny_seqItems hl dl ?_)
  simp only [Int.toNat_natCast, hx]
  refine wpAny_bind (wpAny_setField hu du (by simp) (wpAny_pure ⟨x, rfl, q _ ⟨_, Heap.get?_update_self _ hu (Obj.isFreed_of_fields (Obj.data_mapFields du _)), (Obj.cls_mapFields ..).trans cu, ?_⟩ (Heap.SameBut.update ..)⟩))
  rw [Obj.data_mapFields du]; simp [rawInt]
theorem lsi_stop {it a : Addr} {i : Nat} {vs : Array Value} {Q : Option Value → Shared → Prop} (hh : A.handled = none) (h1 : s.heap.IsListIter it a i) (h2 : s.heap.IsList a vs) (hx : vs[i]? = none) (q : ∀ e h', StopX e h' → Heap.ExtBut it s.heap h' → E e { s with heap := h' }) :
    wpAny (model prog w) A (callSpecial? (.ref it) "__next__") Q E s := by
  obtain ⟨u, hu, cu, du⟩ := id h1
  obtain ⟨l, hl, _, m, dl⟩ := h2
  refine wpAny_callSpecial?_slot (name := Str.ofString "__next__") h1.typeIs slot_listiter_next (wpAny_call_entry slot_listiter_next h1.typeIs entry_listiter_next ?_ (args_listiter_next _))
  show wpAny _ _ (field (.ref it) 0 >>= _) _ _ s; refine wpAny_bind (wpAny_field hu du (x := .ref a) rfl ?_)
  show wpAny _ _ (if (Value.ref a == Value.none) = true then _ else _) _ _ s; rw [if_neg (show ¬ ((Value.ref a == Value.none) = true) by simp)]
  show wpAny _ _ (field (.ref it) 1 >>= _) _ _ s; refine wpAny_bind (wpAny_field hu du (x := .int i 0) rfl ?_)
  show wpAny _ _ (seqItems? (.ref a) >>= _) _ _ s; refine wpAny_bind (wpAny_seqItems hl dl ?_)
  simp only [Int.toNat_natCast, hx]
  refine wpAny_bind (wpAny_rule (wpAny_bind (wpAny_setField hu du (by simp) ?_))); show wpAny _ _ (newExc (.type "StopIteration") [] >>= _) _ _ _
  refine wpAny_bind ?_; simp only [newExc, newTuple]
  refine wpAny_bind (wpAny_newObj_type ?_ (by size_fits)); refine wpAny_bind (m := firstArgMember _ _) (wpAny_of_eq (a := Value.none) (by first | rfl | (simp only [firstArgMember]; rfl)) ?_)
  refine wpAny_newObj_type ?_ (by size_fits); simp only [raiseNew]
  refine wpAny_bind (wpAny_handled ?_); first | rw [show A.in1.handled = none from hh] | rw [hh]
  refine wpAny_bind (wpAny_pure (wpAny_throw (q _ _ ⟨_, _, _, rfl, Heap.get?_push_size _ rfl, rfl, rfl, ?_⟩ (((Heap.SameBut.update ..).extBut.push _).push _))))
  first | rfl | (rw [Array.getElem?_append_left (by decide)]; rfl) | kernel_rfl
end
def tYfL (te : TE) : TYf := fun σ H Q => te σ H fun x H1 => ∃ a xs, x = .ref a ∧ H1 a = some (.lst xs) ∧ Q xs H1
theorem close_lsi : typeLookup (.type "list_iterator") "close" = pure none := by rw [typeLookup_type, builtinLookup_eq_fast]; kernel_rfl
theorem yf_lst {X : Cx} {e : Expr} {te : TE} (he : PE X e te) : YfE X e (tYfL te) := by
  refine ⟨fun pins s σ H Q I h => thn (he.run pins s σ H _ I h) fun v s1 ⟨x, H1, I1, r1, a, xs, ex, ha, hq⟩ => ?_⟩
  subst ex
  obtain rfl : v = Value.ref a := r1
  obtain ⟨hlen, its, n, rits, hl⟩ := (show ObjOk X.prog X.w H1 s1.heap a (.lst xs) from I1.hok a _ ha)
  have L : s1.heap.IsList a its.toArray := ⟨_, hl, rfl, _, rfl⟩
  have lt : a < s1.heap.objs.size := Heap.lt_size hl
  refine ⟨"list", L.typeIs, by decide, wpAny_pyIter_list L ?_⟩
  have old : ∀ b o, s1.heap.get? b = some o → b ≠ s1.heap.objs.size := fun b o e => Nat.ne_of_lt (Heap.lt_size e)
  have up : ∀ b o, s1.heap.get? b = some o → (s1.heap.push { cls := .type "list_iterator", data := .fields #[.ref a, .int 0 0] }).get? b = some o := fun b o e => Heap.get?_push_of_some _ e
  refine ⟨s1.heap.objs.size, H1, xs, fun j h => h.IsListIter s1.heap.objs.size a j ∧ h.IsList a its.toArray, rfl, I1.kept (t' := s1.toks) up, .inr I1.sz, Nat.ne_of_gt I1.lt, fun y c hy => ?_, I1.hok.fresh (Nat.le_refl _), fun p hp => old p.1 _ (I1.pin p hp).1,
    ⟨⟨_, Heap.get?_push_size _ rfl, rfl, rfl⟩, L.push _⟩, ⟨⟨"list_iterator", fun j h q => ?_, close_lsi, by decide⟩, fun j h h' q hk => ?_, fun A' j x s2 Q' E' hA hx q hQ => ?_, fun A' s2 Q' E' hA q hE => ?_⟩, hq⟩
  · obtain ⟨v, o, ho, _⟩ := I1.cell y c hy
    exact old c o ho
  · obtain ⟨⟨o, ho, hc, _⟩, _⟩ := q
    exact ⟨o, ho, hc⟩
  · obtain ⟨⟨o, ho, r⟩, o2, ho2, r2⟩ := q
    exact ⟨⟨o, hk _ o (.inl rfl) ho, r⟩, o2, hk _ o2 (.inr (by rw [ha]; exact fun z => by cases z)) ho2, r2⟩
  · obtain ⟨q1, q2⟩ := q
    obtain ⟨u, hu, ru⟩ := rits.get hx
    exact lsi_item q1 q2 (x := u) (by simpa using hu) fun h' q3 hs => hQ u h' s2.toks ru ⟨q3, q2.extBut hs.extBut (Nat.ne_of_lt lt)⟩ fun b o hb eb => hs.extBut b o hb eb
  · obtain ⟨q1, q2⟩ := q
    have no : its.toArray[xs.length]? = none := by
      have e := rits.length
      have e2 : its[xs.length]? = none := List.getElem?_eq_none_iff.mpr (by omega)
      simpa using e2
    exact lsi_stop hA q1 q2 no fun e h' hS hk => hE e h' s2.toks hS fun b o hb eb => hk b o hb eb
end VS

namespace VS
variable {gf : Bool}
open PySem PySem.Spec PyProof.Rows L2
/-! ### a generator def: statements, then «yield from» a list -/
/-- its promise by a function of data: what it hands out in all -/
def SpGF (K : PySem.W.Frag) (n : Nat) (F : FF) : SpG := fun vs H Q E => ∃ (Oc : Ow) (ds : List D), vs.length = n ∧ (∀ a, Oc a → ∃ o, H a = some o) ∧ DtAll K Oc H ds vs ∧
  match F none ds with
  | .ok (.lst es) none => ∀ xs H', Ext H H' → DtAll K Oc H' es xs → Q xs H'
  | .ex e none => ∀ c dd H', Ext H H' → Xc K Oc H' e c dd → E c dd H'
  | _ => False
/-- the function: m the statements, the list stands in slot j -/
def runG (np N : Nat) (m : Mo Out) (j : Nat) : FF := fun io ds => if io = none ∧ ds.length = np then (match m (frame N none ds) with
    | .ok .nx ρ => match ρ[j]? with
      | some (.dat (.lst es)) => if es.length ≤ sizeLine then .ok (.lst es) none else .no
      | _ => .no
    | .ex e _ => .ex e none
    | _ => .no) else .no
theorem ar_runG {np N : Nat} {m : Mo Out} {j : Nat} : Ar (runG np N m j) false np := fun io ds h => by
  unfold runG at h
  split at h
  · rename_i q; exact ⟨by rw [q.1]; rfl, q.2⟩
  · exact absurd rfl h
/-- where a generator's body stands -/
abbrev XG (P : Program) (w : World) (K : PySem.W.Frag) (mg : Str → Option Value) (base : Heap) (N : List Str) (qual : Str) (st : Stmt) (f : Addr) (cdv : Value) (A : Around) (out : List Env) (s : Shared) (G : Hp) (E : XK) (pn : List (Addr × Obj)) : Cx := gcxOf P w K mg base N qual (defScope st) f cdv A out s G E pn
theorem gen_data {P : Program} {w : World} {K : PySem.W.Frag} {mg : Str → Option Value} {base : Heap} {k : Nat} {f : Addr} {x qual : Str} {st s1 s2 : Stmt} {ye : Expr} {fd : FuncData} {N ps : List Str} {m1 m2 : Mo Out} {j : Nat} {yp yq : Pos} (Fn : FunG K x qual st f fd) (S : GScope N ps (defScope st)) (sy : Sys base) (hb : defBody st = [s1, s2, .Expr (.YieldFrom ye yp) yq])
    (body : ∀ (cdv : Value) (A : Around) (out : List Env) (s : Shared) (G : Hp) (E : XK) (pn : List (Addr × Obj)), Cn (XG P w K mg base N qual st f cdv A out s G E pn) (fun c d _ H => E c d H) k true → PS (XG P w K mg base N qual st f cdv A out s G E pn) s1 (tS K (fun c d _ H => E c d H) m1) ∧
      PS (XG P w K mg base N qual st f cdv A out s G E pn) s2 (tS K (fun c d _ H => E c d H) m2) ∧ PE (XG P w K mg base N qual st f cdv A out s G E pn) ye (tE K (fun c d _ H => E c d H) (slotM j >>= leak)) ∧ interactive (XG P w K mg base N qual st f cdv A out s G E pn).env = false) :
    GFn P w K mg base (k + 1) f fd ps (SpGF K ps.length (runG ps.length N.length (seqM m1 m2) j)) := by
  obtain ⟨oc, od, dV, kV, doc, pm, an, cdv, ct, osl, rfl, lk, hcd⟩ := Fn.ex
  refine gfn_of lk hcd S (fun vs H Q E ⟨_, _, e, _⟩ => e) fun A outer s H vs Q E pn room sp => ?_
  have cn : Cn (XG P w K mg base N qual st f cdv A outer s H E pn) (fun c d _ H => E c d H) k true := ⟨takes_gcx, owns_gcx, fun z => (by cases z), room, rfl, sy⟩
  obtain ⟨r1, r2, r3, hi⟩ := body cdv A outer s H E pn cn
  rw [hb]
  refine ⟨_, gss_cons (gs_ps r1) (gss_cons (gs_ps r2) (gss_cons (gs_yieldFrom (yf_lst r3) room.hd hi) gss_nil)), ?_⟩
  obtain ⟨Oc, ds, ar, here, hd, q⟩ := sp
  have hpl : ps.length ≤ N.length := by have := congrArg List.length S.pre; rw [List.length_take] at this; omega
  have fm := fm_start (N := N) (ai := none) (io := none) here True.intro hd (by rw [show ((none : Option Addr).toList.map V.ref) ++ vs = vs from rfl, ar]; exact hpl)
  have el : ds.length = ps.length := by rw [dtAll_len hd, ar]
  have fr : (((none : Option D).toList.map Sl.io) ++ ds.map Sl.dat) ++ List.replicate (N.length - (((none : Option D).toList.map Sl.io) ++ ds.map Sl.dat).length) Sl.no = frame N.length none ds := rfl
  rw [fr] at fm
  have main : tS K (fun c d _ H => E c d H) (seqM m1 m2) { nx := fun σ' H' => tGThen (tGFrom (tYfL (tE K (fun c d _ H => E c d H) (slotM j >>= leak)))) tG0 { nx := fun ys _ H' => Q ys H', rt := fun ys v H' => v = .non ∧ Q ys H' } [] σ' H', rt := fun v H' => v = .non ∧ Q [] H', bk := fun _ _ => False, ct := fun _ _ => False } (start N vs) H := by
    refine ⟨_, Oc, _, fm, ?_⟩
    unfold runG at q
    rw [if_pos ⟨rfl, el⟩] at q
    unfold sfin
    cases hm : seqM m1 m2 (frame N.length none ds) with
    | no => rw [hm] at q; exact q
    | ex e ρ' =>
      rw [hm] at q
      intro c dd σ' O' H' f' s' xc
      exact q c dd H' (fun b o e => f'.kept b o (by simp) e) (xc_less xc f'.oc)
    | ok o ρ' =>
      rw [hm] at q
      cases o with
      | nx =>
        dsimp only at q
        cases ej : ρ'[j]? with
        | none => rw [ej] at q; exact q.elim
        | some sl =>
          rw [ej] at q
          cases sl with
          | dat d => cases d with
            | lst es =>
              dsimp only at q ⊢
              by_cases hl : es.length ≤ sizeLine
              · rw [if_pos hl] at q
                intro σ' O' H' f' s'
                refine ⟨_, O', ρ', f', ?_⟩
                have em : (slotM j >>= leak : Mo D) ρ' = .ok (.lst es) ρ' := by
                  rw [bind_eq, show slotM j ρ' = slotR j ρ' ρ'[j]? from rfl, ej]
                  show leak (.slot j) ρ' = _
                  rw [show leak (.slot j) ρ' = leakR j ρ' ρ'[j]? from rfl, ej]
                  rfl
                unfold fin
                rw [em]
                intro v O2 H2 f2 s2 dt
                have dt' : Dt K O2 H2 (.lst es) v := dt
                unfold Dt at dt'
                obtain ⟨a, xs, rfl, _, ea, da⟩ := dt'
                refine ⟨a, xs, rfl, ea, by rw [← dtAll_len da]; simpa using hl, ?_⟩
                exact q xs H2 (fun b o e => f2.kept b o (by simp) e) (da.step (Stp.less f2.oc))
              · rw [if_neg hl] at q; exact q.elim
            | _ => exact q.elim
          | _ => exact q.elim
      | _ => exact q.elim
  exact seq_ok main
theorem gen_data2 {P : Program} {w : World} {K : PySem.W.Frag} {mg : Str → Option Value} {base : Heap} {k : Nat} {f : Addr} {x qual y : Str} {st : Stmt} {fd : FuncData} {N ps : List Str} {m1 m2 : Mo Out} {j : Nat} {yp yq p0 : Pos} (Fn : FunG K x qual st f fd) (S : GScope N ps (defScope st)) (sy : Sys base) (hb : defBody st = [(defBody st).getD 0 (.Pass ⟨0, 0, 0, 0⟩), (defBody st).getD 1 (.Pass ⟨0, 0, 0, 0⟩), .Expr (.YieldFrom (.Name y p0) yp) yq])
    (body : ∀ (cdv : Value) (A : Around) (out : List Env) (s : Shared) (G : Hp) (E : XK) (pn : List (Addr × Obj)), Cn (XG P w K mg base N qual st f cdv A out s G E pn) (fun c d _ H => E c d H) k true → PS (XG P w K mg base N qual st f cdv A out s G E pn) ((defBody st).getD 0 (.Pass ⟨0, 0, 0, 0⟩)) (tS K (fun c d _ H => E c d H) m1) ∧
      PS (XG P w K mg base N qual st f cdv A out s G E pn) ((defBody st).getD 1 (.Pass ⟨0, 0, 0, 0⟩)) (tS K (fun c d _ H => E c d H) m2))
    (hi : ∀ (cdv : Value) (A : Around) (out : List Env) (s : Shared) (G : Hp) (E : XK) (pn : List (Addr × Obj)), N[j]? = some y ∧ Vis (XG P w K mg base N qual st f cdv A out s G E pn).env.scope y ∧ interactive (XG P w K mg base N qual st f cdv A out s G E pn).env = false) (hd : (y == ("__debug__" : Str)) = false := by decide) (hc : (y == ("__classdict__" : Str)) = false := by decide) :
    GFn P w K mg base (k + 1) f fd ps (SpGF K ps.length (runG ps.length N.length (seqM m1 m2) j)) :=
  gen_data (j := j) Fn S sy hb fun cdv A out s G E pn cn => by
    obtain ⟨r1, r2⟩ := body cdv A out s G E pn cn
    obtain ⟨h1, h2, h3⟩ := hi cdv A out s G E pn
    exact ⟨r1, r2, se_leak (sp_var j h1 h2 hd hc), h3⟩
/-! ### list(f(..)) -/
/-- the errors of the class at C alone -/
def onlyE (C : Addr) (F : FF) : FF := fun io ds => match F io ds with
  | .ex ⟨.ref C', fs⟩ none => if C' = C then .ex ⟨.ref C', fs⟩ none else .no
  | .ok (.lst es) none => .ok (.lst es) none
  | _ => .no
theorem onlyE_cases (C : Addr) (F : FF) (io : Option D) (ds : List D) : onlyE C F io ds = .no ∨ (∃ fs, F io ds = .ex ⟨.ref C, fs⟩ none ∧ onlyE C F io ds = .ex ⟨.ref C, fs⟩ none) ∨ ∃ es, F io ds = .ok (.lst es) none ∧ onlyE C F io ds = .ok (.lst es) none := by
  unfold onlyE
  cases eF : F io ds with
  | no => exact .inl rfl
  | ok r i => cases r with
    | lst es => cases i with
      | none => exact .inr (.inr ⟨es, rfl, rfl⟩)
      | some _ => exact .inl rfl
    | _ => exact .inl rfl
  | ex e i =>
    obtain ⟨c, fs⟩ := e
    cases c with
    | ref C' => cases i with
      | none =>
        dsimp only
        by_cases h : C' = C
        · subst h; rw [if_pos rfl]; exact .inr (.inl ⟨fs, rfl, rfl⟩)
        · rw [if_neg h]; exact .inl rfl
      | some _ => exact .inl rfl
    | _ => exact .inl rfl
theorem sf_listG {X : Cx} {W : WX} {k j n : Nat} {C f : Addr} {fd : FuncData} {ps : List Str} {F : FF} {x : Str} {p p2 pos pos' : Pos} {e : Expr} {es : List Expr} {g : Mo (List D)} (GF : GFn X.prog X.w X.K X.mg X.base j f fd ps (SpGF X.K n F)) (cn : Cn X W k gf) (ar : Ar F false n) (hm : X.mg x = some (.ref f)) (kp : PySem.W.keepIn X.K (.ref f) = true) (bd : Binds X.K fd ps [])
    (hml : X.mg "list" = none) (hC : PySem.W.subIn X.K (.ref C) (.type "StopIteration") = some false) (ha : PA X (e :: es) (tA X.K W g)) (hj : j + 3 ≤ k := by decide) (hg : Gl X x := by rfl) (hgl : Gl X "list" := by rfl) (hdb : (x == ("__debug__" : Str)) = false := by decide)
    (he : starEach (e :: es) X.env = (false, eval e X.env) :: starEach es X.env := by rfl) (hpl : (backTo pos' (starEach es X.env)).any (·.1) = false := by rfl) (h1 : starEach [.Call (.Name x p2) (e :: es) [] pos'] X.env = (false, eval (.Call (.Name x p2) (e :: es) [] pos') X.env) :: starEach [] X.env := by rfl) :
    PE X (.Call (.Name "list" p) [.Call (.Name x p2) (e :: es) [] pos'] [] pos) (tF X.K W (callM (onlyE C F) g)) := by
  refine ⟨fun pins s σ H Q I q => ?_⟩
  obtain ⟨φ, O, ρ, fm, q⟩ := q
  have rm := cn.rm.mono hj
  have PG := pgen_call (E := fun c d H' => PySem.W.subIn X.K c (.type "StopIteration") = some false ∧ WE W σ c d H') (p := p2) (pos' := pos') GF (rm.mono (Nat.le_add_right j 3)) hg hm kp bd .nil ha hdb he hpl
  have start : tCallG (SpGF X.K n F) [] (fun c d H' => PySem.W.subIn X.K c (.type "StopIteration") = some false ∧ WE W σ c d H') (tA X.K W g) σ H (fun out H2 => ∀ p, H2 p = none → Q (.ref p) (upd H2 p (.lst out))) := by
    refine tX_mono (fin_bind (rel := rA X.K) fm q) fun vs H1 ⟨O1, ρ1, ds, f1, s1, r1, q1⟩ => ?_
    rw [List.append_nil]
    rcases onlyE_cases C F none ds with eo | ⟨fs, eF, eo⟩ | ⟨es', eF, eo⟩
    · rw [eo] at q1; exact q1.elim
    · rw [eo] at q1
      have len := (ar none ds (by rw [eF]; intro z; cases z)).2
      refine ⟨O1, ds, by rw [← dtAll_len r1]; exact len, f1.here, r1, ?_⟩
      rw [eF]
      exact fun c dd H' ext xc => ⟨by rw [xc.1]; exact hC, q1 c dd O1 H' (f1.ext ext) ext.stp xc⟩
    · rw [eo] at q1
      have len := (ar none ds (by rw [eF]; intro z; cases z)).2
      refine ⟨O1, ds, by rw [← dtAll_len r1]; exact len, f1.here, r1, ?_⟩
      rw [eF]
      intro xs H' ext da p hp
      have f2 := f1.ext ext
      exact q1 _ (plus O1 p) _ (f2.new hp) (ext.stp.trans (stp_new hp)) ⟨p, rfl, .inr rfl, f2.h0 hp, f2.noslot hp, f2.pr0 hp, xs, upd_same, da.step (stp_new hp)⟩
  refine wpAny_Call_Name_kw (ld_blt (u := .type "list") I hgl hml (by decide +kernel) ?_ (by decide) (by decide))
  refine PyProof.Rows.callWith_type1 ?_ h1 rfl
  rw [h1]
  show wpAny _ _ (spliced ((false, eval (.Call (.Name x p2) (e :: es) [] pos') X.env) :: backTo pos (starEach [] X.env))) _ _ s
  refine Calls.spliced_cons (thn (PG.run pins s σ H _ I start) fun u s1 ⟨H1, sc, ex, I1, hex, hG⟩ => Calls.spliced_nil ?_)
  have big : sc.heap.objs.size ≤ s1.heap.objs.size := by
    obtain ⟨_, _, _, _, a1, a2, _⟩ := hG
    exact Nat.le_trans a1 (Nat.le_of_lt a2)
  refine call_list_new rm I1.ok.frames hG (fun S s' acc c H' ys b0 b1 b2 hl b3 b4 b5 b6 b7 b8 => ⟨.ref S, upd H' S (.lst ys), I1.drained (Nat.le_trans big b0) hl b1 b2 hex b3 b4 b5 b6 b7, rfl, b8 S b7⟩) fun er s' gg hc => ?_
  have kin : X.K.In s'.heap := by
    obtain ⟨a, B, H', cls, d, _, fl, _, ub, _⟩ := id hc
    refine I1.ok.mod.kin.keeps fun b o eb => fl.1 b o (ub.keep b o (I1.bs b o eb).1 (I1.bs b o eb).2 fun hm => ?_)
    rcases List.mem_cons.mp (I1.stkSub b hm) with z | z
    · have lt := Heap.lt_size eb
      rw [z] at lt
      exact absurd (Nat.lt_of_lt_of_le lt (Nat.le_trans I1.ok.bsz I1.ok.above)) (Nat.lt_irrefl _)
    · exact I1.ok.nofr eb z
  refine ⟨notStop_of (fun c d H' z => z.1) kin hc, passAt cn.tk σ pins H1 sc er _ I1 ?_⟩
  obtain ⟨a, B, H', cls, d, c1, fl, c2, ub, c3, c4, c5, c6⟩ := hc
  exact ⟨a, B, H', cls, d, c1, fl, c2, ub, c3, c4, allBare_setGen c5 rfl, c6.2⟩
end VS

namespace VS
variable {gf : Bool}
open PySem PySem.Spec PyProof.Rows L2
/-! ### list comprehensions with two fors -/
def lc2I (vs1 : List Nat) (t1 : Tm) (c1 : Mo Bool) (e : Mo D) : List D → List D → List Sl → Rs (List D)
  | acc, [], ρ => .ok acc ρ
  | acc, d :: ds, ρ => match t1 d ρ with
    | none => .no
    | some ρ2 => match c1 ρ2 with
      | .ok true ρ3 => match e ρ3 with
        | .ok x ρ4 => if acc.length < sizeLine then lc2I vs1 t1 c1 e (acc ++ [x]) ds (wipeS ρ4 vs1) else .no
        | _ => .no
      | .ok false ρ3 => lc2I vs1 t1 c1 e acc ds (wipeS ρ3 vs1)
      | _ => .no
def lc2R (vs vs1 : List Nat) (t : Tm) (c : Mo Bool) (src1 : Mo (List D)) (t1 : Tm) (c1 : Mo Bool) (e : Mo D) : List D → List D → List Sl → Rs D
  | acc, [], ρ => .ok (.lst acc) ρ
  | acc, d :: ds, ρ => match t d ρ with
    | none => .no
    | some ρ2 => match c ρ2 with
      | .ok true ρ3 => match src1 ρ3 with
        | .ok ds1 ρ4 => match lc2I vs1 t1 c1 e acc ds1 (wipeS ρ4 vs1) with
          | .ok acc' ρ5 => lc2R vs vs1 t c src1 t1 c1 e acc' ds (wipeS ρ5 vs)
          | _ => .no
        | _ => .no
      | .ok false ρ3 => lc2R vs vs1 t c src1 t1 c1 e acc ds (wipeS ρ3 vs)
      | _ => .no
def lc2M (vs vs1 : List Nat) (src : Mo (List D)) (t : Tm) (c : Mo Bool) (src1 : Mo (List D)) (t1 : Tm) (c1 : Mo Bool) (e : Mo D) : Mo D := src >>= fun ds ρ => lc2R vs vs1 t c src1 t1 c1 e [] ds (wipeS ρ vs)
def lc2T (vs vs1 : List Nat) (t : Tm) (c : Mo Bool) (src1 : Mo (List D)) (t1 : Tm) (c1 : Mo Bool) (e : Mo D) (rest acc ds1 : List D) : Mo D := fun ρ => match lc2I vs1 t1 c1 e acc ds1 ρ with
  | .ok acc' ρ5 => lc2R vs vs1 t c src1 t1 c1 e acc' rest (wipeS ρ5 vs)
  | _ => .no
theorem wipe_sub {σ : L2.St} {vs vs1 : List Nat} (h : ∀ i ∈ vs1, i ∈ vs) : wipe (wipe σ vs1) vs = wipe σ vs := by
  have gen : ∀ (ws : List Nat), (∀ i ∈ ws, i ∈ vs) → wipe (wipe σ ws) vs = wipe σ vs := by
    intro ws
    induction ws with
    | nil => intro _; rfl
    | cons w ws ih =>
      intro h
      show wipe ((wipe σ ws).set w none) vs = _
      rw [wipe_set (h w List.mem_cons_self)]
      exact ih fun i hi => h i (List.mem_cons_of_mem _ hi)
  exact gen vs1 h
theorem lc2_ok {K : PySem.W.Frag} {W : WX} {g g1 : TG} {is is1 : List Nat} {t t1 : Tm} {src src1 : Mo (List D)} {c c1 : Mo Bool} {e : Mo D} {vs vs1 : List Nat} (hs : TSem K g is t) (hsub : ∀ i ∈ is, i ∈ vs) (hs1 : TSem K g1 is1 t1) (hsub1 : ∀ i ∈ is1, i ∈ vs1) (hv : ∀ i ∈ vs1, i ∈ vs) {σ : L2.St} {H : Hp} {Q : VK} (q : tX K W (rF K) (lc2M vs vs1 src t c src1 t1 c1 e) σ H Q) :
    tLc2 (tI K W src) g (tT K W0 c) (tI K W0 src1) g1 (tT K W0 c1) (tE K W0 e) vs vs1 σ H Q := by
  obtain ⟨φ, O, ρ, fm, q⟩ := q
  refine tX_mono (fin_bind (rel := rIt K) fm q) fun J H1 ⟨O1, ρ1, ds, f1, s1, sv, q⟩ => ?_
  intro Dn hD
  have n0 := f1.h0 hD
  have p0 := f1.pr0 hD
  have fw := (f1.wipes vs).new (o := .lst []) hD
  have sD : Stp O1 H1 (plus O1 Dn) (upd H1 Dn (.lst [])) := stp_new hD
  refine ⟨fun i n H' => n = ds.length - i ∧ i ≤ ds.length ∧ ∃ O' ρ' acc xs, Fm K (φ.hold Dn (.lst xs)) O' ρ' (wipe σ vs) H' ∧ Wp vs ρ' ∧ Stp O1 H1 O' H' ∧ DtAll K O' H' acc xs ∧ fin K W (rF K) φ (lc2R vs vs1 t c src1 t1 c1 e acc (ds.drop i)) σ O' ρ' H' Q,
    ⟨ds.length, rfl, Nat.zero_le _, plus O1 Dn, wipeS ρ1 vs, [], [], fw.hold (.inr rfl) upd_same ?_, wp_wipeS, sD, by unfold DtAll; rfl, fin_step sD q⟩, ?_⟩
  · exact (f1.wipes vs).noslot hD
  rintro i n H' ⟨rfl, hi, O', ρ', acc, xs, f', wp, s', da, q'⟩
  obtain ⟨go, stop⟩ := sv O' H' s' f'.here i
  obtain ⟨oD, hD', nsD⟩ := f'.held
  by_cases hl : i = ds.length
  · refine .inl ⟨stop hl, ?_⟩
    subst hl
    rw [List.drop_length] at q'
    have f2 := (f'.free p0).unwipe wp
    refine q' _ O' H' f2 .refl ⟨Dn, rfl, oD, n0, ?_, p0, ⟨xs, hD', da⟩⟩
    intro j s e m z
    refine nsD j s e m ?_
    rw [wipe_out fun hj => ?_]
    · exact z
    · have := wp j s hj e
      subst this
      exact m
  · have hlt : i < ds.length := by omega
    obtain ⟨d, ed⟩ : ∃ d, ds[i]? = some d := ⟨_, List.getElem?_eq_getElem hlt⟩
    obtain ⟨gg, yl⟩ := go d ed
    refine .inr ⟨gg, fun H2 => ∃ O2 ρ2 acc xs, Fm K (φ.hold Dn (.lst xs)) O2 ρ2 (wipe σ vs) H2 ∧ Wp vs ρ2 ∧ Stp O1 H1 O2 H2 ∧ DtAll K O2 H2 acc xs ∧ fin K W (rF K) φ (lc2R vs vs1 t c src1 t1 c1 e acc (ds.drop (i + 1))) σ O2 ρ2 H2 Q,
      fun H2 z => ⟨ds.length - (i + 1), by omega, rfl, hlt, z⟩, fun x H2 y => ?_⟩
    obtain ⟨ex, dx⟩ := yl x H2 y
    have f2 := f'.ext ex
    have s2 : Stp O1 H1 O' H2 := s'.trans ex.stp
    rw [drop_get ed] at q'
    have q2 := fin_step (ex.stp (O := O')) q'
    unfold fin at q2
    unfold lc2R at q2
    cases e1 : t d ρ' with
    | none => rw [e1] at q2; exact q2.elim
    | some ρ2 =>
      rw [e1] at q2
      dsimp only at q2
      refine hs _ O' ρ' ρ2 _ H2 d x _ f2 dx e1 fun σ2 f3 w3 => ⟨(w3 vs hsub).trans wipe_wipe, ?_⟩
      have ew : wipe σ2 vs = wipe σ vs := (w3 vs hsub).trans wipe_wipe
      refine ⟨φ.hold Dn (.lst xs), O', ρ2, f3, ?_⟩
      unfold fin
      cases e2 : c ρ2 with
      | no => rw [e2] at q2; exact q2
      | ex _ _ => rw [e2] at q2; exact q2.elim
      | ok b ρ3 =>
        rw [e2] at q2
        intro b' O3 H3 f4 s4 eb
        have eb' : b = b' := eb
        subst eb'
        cases b with
        | false =>
          rw [if_neg (by decide)]
          have fw4 := f4.wipes vs
          rw [ew] at fw4
          exact ⟨O3, wipeS ρ3 vs, acc, xs, fw4, wp_wipeS, s2.trans s4, DtAll.step (ex.stp.trans s4) _ _ da, fin_step s4 q2⟩
        | true =>
          rw [if_pos rfl]
          refine ⟨φ.hold Dn (.lst xs), O3, ρ3, f4, ?_⟩
          unfold fin
          dsimp only at q2
          cases e3 : src1 ρ3 with
          | no => rw [e3] at q2; exact q2
          | ex _ _ => rw [e3] at q2; exact q2.elim
          | ok ds1 ρ4 =>
            rw [e3] at q2
            dsimp only at q2
            intro J1 O4 H4 f5 s5 sv1
            have st5 : Stp O1 H1 O4 H4 := (s2.trans s4).trans s5
            have da5 := DtAll.step ((ex.stp.trans s4).trans s5) _ _ da
            refine ⟨fun j n1 H' => n1 = ds1.length - j ∧ j ≤ ds1.length ∧ ∃ O' ρ' acc xs, Fm K (φ.hold Dn (.lst xs)) O' ρ' (wipe σ2 vs1) H' ∧ Stp O4 H4 O' H' ∧ DtAll K O' H' acc xs ∧ fin K W (rF K) φ (lc2T vs vs1 t c src1 t1 c1 e (ds.drop (i + 1)) acc (ds1.drop j)) σ O' ρ' H' Q,
              ⟨ds1.length, rfl, Nat.zero_le _, O4, wipeS ρ4 vs1, acc, xs, f5.wipes vs1, .refl, da5, fin_step (s4.trans s5) q2⟩, ?_⟩
            rintro j n1 H6 ⟨rfl, hj, O6, ρ6, acc6, xs6, f6, s6, da6, q6⟩
            obtain ⟨go1, stop1⟩ := sv1 O6 H6 s6 f6.here j
            by_cases hl1 : j = ds1.length
            · refine .inl ⟨stop1 hl1, ?_⟩
              subst hl1
              rw [List.drop_length] at q6
              have fw6 := f6.wipes vs
              rw [wipe_sub hv, ew] at fw6
              exact ⟨O6, wipeS ρ6 vs, acc6, xs6, fw6, wp_wipeS, st5.trans s6, da6, q6⟩
            · have hlt1 : j < ds1.length := by omega
              obtain ⟨d1, ed1⟩ : ∃ d, ds1[j]? = some d := ⟨_, List.getElem?_eq_getElem hlt1⟩
              obtain ⟨gg1, yl1⟩ := go1 d1 ed1
              refine .inr ⟨gg1, fun H2 => ∃ O' ρ' acc xs, Fm K (φ.hold Dn (.lst xs)) O' ρ' (wipe σ2 vs1) H2 ∧ Stp O4 H4 O' H2 ∧ DtAll K O' H2 acc xs ∧ fin K W (rF K) φ (lc2T vs vs1 t c src1 t1 c1 e (ds.drop (i + 1)) acc (ds1.drop (j + 1))) σ O' ρ' H2 Q, fun H2 z => ⟨ds1.length - (j + 1), by omega, rfl, hlt1, z⟩, fun x1 H7 y1 => ?_⟩
              obtain ⟨ex1, dx1⟩ := yl1 x1 H7 y1
              have f7 := f6.ext ex1
              rw [drop_get ed1] at q6
              have q7 := fin_step (ex1.stp (O := O6)) q6
              unfold fin lc2T at q7
              unfold lc2I at q7
              cases e4 : t1 d1 ρ6 with
              | none => rw [e4] at q7; exact q7.elim
              | some ρ7 =>
                rw [e4] at q7
                dsimp only at q7
                refine hs1 _ O6 ρ6 ρ7 _ H7 d1 x1 _ f7 dx1 e4 fun σ3 f8 w8 => ⟨(w8 vs1 hsub1).trans wipe_wipe, ?_⟩
                have ew1 : wipe σ3 vs1 = wipe σ2 vs1 := (w8 vs1 hsub1).trans wipe_wipe
                refine ⟨φ.hold Dn (.lst xs6), O6, ρ7, f8, ?_⟩
                unfold fin
                cases e5 : c1 ρ7 with
                | no => rw [e5] at q7; exact q7
                | ex _ _ => rw [e5] at q7; exact q7.elim
                | ok b1 ρ8 =>
                  rw [e5] at q7
                  intro b1' O8 H8 f9 s9 eb1
                  have eb1' : b1 = b1' := eb1
                  subst eb1'
                  cases b1 with
                  | false =>
                    rw [if_neg (by decide)]
                    have fw9 := f9.wipes vs1
                    rw [ew1] at fw9
                    exact ⟨O8, wipeS ρ8 vs1, acc6, xs6, fw9, (s6.trans ex1.stp).trans s9, DtAll.step (ex1.stp.trans s9) _ _ da6, fin_step s9 (show fin K W (rF K) φ (lc2T vs vs1 t c src1 t1 c1 e (ds.drop (i + 1)) acc6 (ds1.drop (j + 1))) σ O6 (wipeS ρ8 vs1) H7 Q from q7)⟩
                  | true =>
                    rw [if_pos rfl]
                    refine ⟨φ.hold Dn (.lst xs6), O8, ρ8, f9, ?_⟩
                    unfold fin
                    dsimp only at q7
                    cases e6 : e ρ8 with
                    | no => rw [e6] at q7; exact q7
                    | ex _ _ => rw [e6] at q7; exact q7.elim
                    | ok r ρ9 =>
                      rw [e6] at q7
                      dsimp only at q7
                      intro v O9 H9 fA sA dv
                      obtain ⟨oDA, hDA, _⟩ := fA.held
                      have daA := DtAll.step ((ex1.stp.trans s9).trans sA) _ _ da6
                      have hlen := dtAll_len daA
                      by_cases hz : acc6.length < sizeLine
                      · rw [if_pos hz] at q7
                        refine ⟨xs6, hDA, by rw [← hlen]; exact hz, ?_⟩
                        have sm : Stp O9 H9 O9 (upd H9 Dn (.lst (xs6 ++ [v]))) := stp_mut oDA
                        have fwA := (fA.pmut (o' := .lst (xs6 ++ [v])) n0).wipes vs1
                        rw [ew1] at fwA
                        have dv' : Dt K O9 H9 r v := dv
                        refine ⟨O9, wipeS ρ9 vs1, acc6 ++ [r], xs6 ++ [v], fwA, (((s6.trans ex1.stp).trans s9).trans sA).trans sm, ?_, fin_step ((s9.trans sA).trans sm) (show fin K W (rF K) φ (lc2T vs vs1 t c src1 t1 c1 e (ds.drop (i + 1)) (acc6 ++ [r]) (ds1.drop (j + 1))) σ O6 (wipeS ρ9 vs1) H7 Q from q7)⟩
                        refine DtAll.step sm _ _ (dtAll_app daA ?_)
                        unfold DtAll
                        exact ⟨v, [], rfl, dv', by unfold DtAll; rfl⟩
                      · rw [if_neg hz] at q7
                        exact q7.elim
section
variable {X : Cx} {W : WX} {k : Nat}
theorem sf_lc2 (vs1 : List Nat) {elt tg iter tg1 iter1 : Expr} {ifs ifs1 : List Expr} {scope : Scope} {own : List (Str × Nat)} {pos : Pos} {g g1 : TG} {is is1 : List Nat} {t t1 : Tm} {src src1 : Mo (List D)} {c c1 : Mo Bool} {e : Mo D} (cn : Cn X W k gf) (hN : X.N.Nodup) (hi : PI X tg iter (tI X.K W src)) (ok : BlkOk X.N X.env.scope scope own)
    (hg : ∀ (s : Shared) (H : Hp) (C : Addr) (cl : List (Str × Addr)) (fp : List Addr), PG (X.blk s H scope (compEnvC scope cl C X.env) fp) tg g) (hs : TSem X.K g is t) (hsub : ∀ i ∈ is, i ∈ own.map (·.2))
    (hg1 : ∀ (s : Shared) (H : Hp) (C : Addr) (cl : List (Str × Addr)) (fp : List Addr), PG (X.blk s H scope (compEnvC scope cl C X.env) fp) tg1 g1) (hs1 : TSem X.K g1 is1 t1) (hsub1 : ∀ i ∈ is1, i ∈ vs1) (hv : ∀ i ∈ vs1, i ∈ own.map (·.2))
    (ht : ∀ (s : Shared) (H : Hp) (C : Addr) (cl : List (Str × Addr)) (fp : List Addr), Cn (X.blk s H scope (compEnvC scope cl C X.env) fp) W0 k gf → PTs (X.blk s H scope (compEnvC scope cl C X.env) fp) ifs (tT X.K W0 c))
    (hi1 : ∀ (s : Shared) (H : Hp) (C : Addr) (cl : List (Str × Addr)) (fp : List Addr), Cn (X.blk s H scope (compEnvC scope cl C X.env) fp) W0 k gf → PI (X.blk s H scope (compEnvC scope cl C X.env) fp) tg1 iter1 (tI X.K W0 src1))
    (ht1 : ∀ (s : Shared) (H : Hp) (C : Addr) (cl : List (Str × Addr)) (fp : List Addr), Cn (X.blk s H scope (compEnvC scope cl C X.env) fp) W0 k gf → PTs (X.blk s H scope (compEnvC scope cl C X.env) fp) ifs1 (tT X.K W0 c1))
    (he : ∀ (s : Shared) (H : Hp) (C : Addr) (cl : List (Str × Addr)) (fp : List Addr), Cn (X.blk s H scope (compEnvC scope cl C X.env) fp) W0 k gf → PE (X.blk s H scope (compEnvC scope cl C X.env) fp) elt (tE X.K W0 e))
    (hf : ∀ x, foldedSetIterable iter X.env x = pure x := by intro _; rfl) (hf1 : ∀ env x, foldedSetIterable iter1 env x = pure x := by intro _ _; rfl) : PE X (.ListComp elt [⟨tg, iter, ifs, 0⟩, ⟨tg1, iter1, ifs1, 0⟩] scope pos) (tF X.K W (lc2M (own.map (·.2)) vs1 src t c src1 t1 c1 e)) :=
  peI (pe_lc2 cn.cm hN hi ok hv hg (fun s H C cl fp => ht s H C cl fp cn.blk) (fun s H C cl fp => hi1 s H C cl fp cn.blk) hg1 (fun s H C cl fp => ht1 s H C cl fp cn.blk) (fun s H C cl fp => he s H C cl fp cn.blk) hf hf1) fun σ H Q q => lc2_ok hs hsub hs1 hsub1 hv q
theorem ss_setLc2 (i : Nat) (vs1 : List Nat) {y : Str} {py : Pos} {elt tg iter tg1 iter1 : Expr} {ifs ifs1 : List Expr} {scope : Scope} {own : List (Str × Nat)} {pos spos : Pos} {g g1 : TG} {is is1 : List Nat} {t t1 : Tm} {src src1 : Mo (List D)} {c c1 : Mo Bool} {e : Mo D} (cn : Cn X W k gf) (hN : X.N.Nodup) (hy : X.N[i]? = some y) (hyl : X.env.scope.names.lookup y = some .local)
    (hsw : swapsWith (.ListComp elt [⟨tg, iter, ifs, 0⟩, ⟨tg1, iter1, ifs1, 0⟩] scope pos) (some (.Name y py)) spos.line X.env = pure true) (hi : PI X tg iter (tI X.K W src)) (ok : BlkOk X.N X.env.scope scope own)
    (hg : ∀ (s : Shared) (H : Hp) (C : Addr) (cl : List (Str × Addr)) (fp : List Addr), PG (X.blk s H scope (compEnvC scope cl C X.env) fp) tg g) (hs : TSem X.K g is t) (hsub : ∀ i ∈ is, i ∈ own.map (·.2))
    (hg1 : ∀ (s : Shared) (H : Hp) (C : Addr) (cl : List (Str × Addr)) (fp : List Addr), PG (X.blk s H scope (compEnvC scope cl C X.env) fp) tg1 g1) (hs1 : TSem X.K g1 is1 t1) (hsub1 : ∀ i ∈ is1, i ∈ vs1) (hv : ∀ i ∈ vs1, i ∈ own.map (·.2))
    (ht : ∀ (s : Shared) (H : Hp) (C : Addr) (cl : List (Str × Addr)) (fp : List Addr), Cn (X.blk s H scope (compEnvC scope cl C X.env) fp) W0 k gf → PTs (X.blk s H scope (compEnvC scope cl C X.env) fp) ifs (tT X.K W0 c))
    (hi1 : ∀ (s : Shared) (H : Hp) (C : Addr) (cl : List (Str × Addr)) (fp : List Addr), Cn (X.blk s H scope (compEnvC scope cl C X.env) fp) W0 k gf → PI (X.blk s H scope (compEnvC scope cl C X.env) fp) tg1 iter1 (tI X.K W0 src1))
    (ht1 : ∀ (s : Shared) (H : Hp) (C : Addr) (cl : List (Str × Addr)) (fp : List Addr), Cn (X.blk s H scope (compEnvC scope cl C X.env) fp) W0 k gf → PTs (X.blk s H scope (compEnvC scope cl C X.env) fp) ifs1 (tT X.K W0 c1))
    (he : ∀ (s : Shared) (H : Hp) (C : Addr) (cl : List (Str × Addr)) (fp : List Addr), Cn (X.blk s H scope (compEnvC scope cl C X.env) fp) W0 k gf → PE (X.blk s H scope (compEnvC scope cl C X.env) fp) elt (tE X.K W0 e))
    (hf : ∀ x, foldedSetIterable iter X.env x = pure x := by intro _; rfl) (hf1 : ∀ env x, foldedSetIterable iter1 env x = pure x := by intro _ _; rfl) : PS X (.Assign [.Name y py] (.ListComp elt [⟨tg, iter, ifs, 0⟩, ⟨tg1, iter1, ifs1, 0⟩] scope pos) spos) (tS X.K W (setF i (lc2M (own.map (·.2)) vs1 src t c src1 t1 c1 e))) :=
  psI (ps_setLc2 (i := i) cn.cm hN hy hyl hsw hi ok hv hg (fun s H C cl fp => ht s H C cl fp cn.blk) (fun s H C cl fp => hi1 s H C cl fp cn.blk) hg1 (fun s H C cl fp => ht1 s H C cl fp cn.blk) (fun s H C cl fp => he s H C cl fp cn.blk) hf hf1) fun Dn σ H q => lc2_ok hs hsub hs1 hsub1 hv (asgF_ok q)
end
section
variable {ρ : List Sl} {R : Ex → List Sl → Prop} {Qd : D → List Sl → Prop} {Ql : List D → List Sl → Prop} {vs vs1 : List Nat} {t t1 : Tm} {c c1 : Mo Bool} {src src1 : Mo (List D)} {e : Mo D}
@[simp] theorem wp_lc2 : wp (lc2M vs vs1 src t c src1 t1 c1 e) ρ Qd R = wp src ρ (fun ds ρ' => wpR (lc2R vs vs1 t c src1 t1 c1 e [] ds (wipeS ρ' vs)) Qd R) R := by
  have h := wp_bind (ρ := ρ) (Q2 := Qd) (R := R) (m := src) (k := fun ds => (fun ρ => lc2R vs vs1 t c src1 t1 c1 e [] ds (wipeS ρ vs) : Mo D))
  unfold wp at h ⊢
  exact h
theorem lc2I_inv {ds acc : List D} (I : Nat → List D → List Sl → Prop) (h0 : I 0 acc ρ) (hn : ∀ acc' ρ', I ds.length acc' ρ' → Ql acc' ρ')
    (hs : ∀ i d acc' ρ', ds[i]? = some d → I i acc' ρ' → ∃ ρ2, t1 d ρ' = some ρ2 ∧ wp c1 ρ2 (fun b ρ3 => if b = true then wp e ρ3 (fun x ρ4 => acc'.length < sizeLine ∧ I (i + 1) (acc' ++ [x]) (wipeS ρ4 vs1)) R0 else I (i + 1) acc' (wipeS ρ3 vs1)) R0) : wpR (lc2I vs1 t1 c1 e acc ds ρ) Ql R := by
  induction ds generalizing acc ρ I with
  | nil => exact hn acc ρ h0
  | cons d ds ih =>
    unfold lc2I
    obtain ⟨ρ2, e1, h1⟩ := hs 0 d acc ρ rfl h0
    rw [e1]
    dsimp only
    unfold wp wpR at h1
    cases e2 : c1 ρ2 with
    | no => rw [e2] at h1; exact h1.elim
    | ex _ _ => rw [e2] at h1; exact h1.elim
    | ok b ρ3 =>
      rw [e2] at h1
      cases b with
      | false => exact ih (fun i => I (i + 1)) h1 (fun a r h => hn a r h) fun i d a r q h => hs (i + 1) d a r q h
      | true =>
        have h1' : wp e ρ3 (fun x ρ4 => acc.length < sizeLine ∧ I 1 (acc ++ [x]) (wipeS ρ4 vs1)) R0 := by unfold wp wpR; exact h1
        unfold wp wpR at h1'
        cases e3 : e ρ3 with
        | no => rw [e3] at h1'; exact h1'.elim
        | ex _ _ => rw [e3] at h1'; exact h1'.elim
        | ok x ρ4 =>
          rw [e3] at h1'
          dsimp only
          rw [e3]
          dsimp only
          rw [if_pos h1'.1]
          exact ih (fun i => I (i + 1)) h1'.2 (fun a r h => hn a r h) fun i d a r q h => hs (i + 1) d a r q h
theorem lc2_inv {ds acc : List D} (I : Nat → List D → List Sl → Prop) (h0 : I 0 acc ρ) (hn : ∀ acc' ρ', I ds.length acc' ρ' → Qd (.lst acc') ρ')
    (hs : ∀ i d acc' ρ', ds[i]? = some d → I i acc' ρ' → ∃ ρ2, t d ρ' = some ρ2 ∧ wp c ρ2 (fun b ρ3 => if b = true then wp src1 ρ3 (fun ds1 ρ4 => wpR (lc2I vs1 t1 c1 e acc' ds1 (wipeS ρ4 vs1)) (fun acc2 ρ5 => I (i + 1) acc2 (wipeS ρ5 vs)) R0) R0 else I (i + 1) acc' (wipeS ρ3 vs)) R0) : wpR (lc2R vs vs1 t c src1 t1 c1 e acc ds ρ) Qd R := by
  induction ds generalizing acc ρ I with
  | nil => exact hn acc ρ h0
  | cons d ds ih =>
    unfold lc2R
    obtain ⟨ρ2, e1, h1⟩ := hs 0 d acc ρ rfl h0
    rw [e1]
    dsimp only
    unfold wp wpR at h1
    cases e2 : c ρ2 with
    | no => rw [e2] at h1; exact h1.elim
    | ex _ _ => rw [e2] at h1; exact h1.elim
    | ok b ρ3 =>
      rw [e2] at h1
      cases b with
      | false => exact ih (fun i => I (i + 1)) h1 (fun a r h => hn a r h) fun i d a r q h => hs (i + 1) d a r q h
      | true =>
        have h1' : wp src1 ρ3 (fun ds1 ρ4 => wpR (lc2I vs1 t1 c1 e acc ds1 (wipeS ρ4 vs1)) (fun acc2 ρ5 => I 1 acc2 (wipeS ρ5 vs)) R0) R0 := by unfold wp wpR; exact h1
        unfold wp wpR at h1'
        cases e3 : src1 ρ3 with
        | no => rw [e3] at h1'; exact h1'.elim
        | ex _ _ => rw [e3] at h1'; exact h1'.elim
        | ok ds1 ρ4 =>
          rw [e3] at h1'
          dsimp only
          rw [e3]
          dsimp only at h1' ⊢
          have h2 : wpR (lc2I vs1 t1 c1 e acc ds1 (wipeS ρ4 vs1)) (fun acc2 ρ5 => I 1 acc2 (wipeS ρ5 vs)) R0 := h1'
          unfold wpR at h2
          cases e4 : lc2I vs1 t1 c1 e acc ds1 (wipeS ρ4 vs1) with
          | no => rw [e4] at h2; exact h2.elim
          | ex _ _ => rw [e4] at h2; exact h2.elim
          | ok acc2 ρ5 =>
            rw [e4] at h2
            exact ih (fun i => I (i + 1)) h2 (fun a r h => hn a r h) fun i d a r q h => hs (i + 1) d a r q h
end
/-! ### tuples of intsOf in order -/
def intsOf : List D → Option (List Int)
  | [] => some []
  | .int i :: ds => (intsOf ds).map (i :: ·)
  | _ => none
theorem intsOf_map : ∀ ns : List Int, intsOf (ns.map D.int) = some ns
  | [] => rfl
  | n :: ns => by show (intsOf (ns.map D.int)).map (n :: ·) = _; rw [intsOf_map ns]; rfl
theorem intsOf_some : ∀ {ds : List D} {ns : List Int}, intsOf ds = some ns → ds = ns.map D.int
  | [], ns, h => by cases h; rfl
  | d :: ds, ns, h => by
    cases d with
    | int i =>
      have h' : (intsOf ds).map (i :: ·) = some ns := h
      cases e : intsOf ds with
      | none => rw [e] at h'; cases h'
      | some ms => rw [e] at h'; cases h'; rw [intsOf_some e]; rfl
    | _ => cases h
theorem dtAll_ints {K : PySem.W.Frag} {O : Ow} {H : Hp} : ∀ {ns : List Int} {xs : List V}, DtAll K O H (ns.map D.int) xs → xs = ns.map V.int
  | [], xs, h => by unfold DtAll at h; exact h
  | n :: ns, xs, h => by
    have h' : DtAll K O H (.int n :: ns.map D.int) xs := h
    unfold DtAll at h'
    obtain ⟨x, r, rfl, h1, h2⟩ := h'
    unfold Dt at h1
    rw [h1, dtAll_ints h2]
    rfl
def dLtX (x y : D) : Option D := match x with
  | .tup ds => match y with
    | .tup es => (intsOf ds).bind fun ns => (intsOf es).map fun ms => .bl (HT.lexLt ns ms)
    | _ => none
  | _ => dLt x y
def rLtX (K : PySem.W.Frag) : R2 := fun x y H Q => rLtA x y H Q ∨ rLtT K x y H Q
theorem op_ltX {X : Cx} {W : WX} {k : Nat} (cn : Cn X W k gf) : OpR X (compareOp .Lt) (rLtX X.K) := OpR.or2 op_ltA (op_ltT (by have := Room.units cn.rm; omega))
theorem sem_ltX {K : PySem.W.Frag} : RSem K (rLtX K) dLtX := fun O H v1 v2 d1 d2 d Q l1 l2 e here q => by
  cases d1 with
  | tup ds =>
    cases d2 with
    | tup es =>
      obtain ⟨ns, e1, e2⟩ := bind_some (show (intsOf ds).bind (fun ns => (intsOf es).map fun ms => D.bl (HT.lexLt ns ms)) = some d from e)
      cases e3 : intsOf es with
      | none => rw [e3] at e2; cases e2
      | some ms =>
        rw [e3] at e2
        cases e2
        rw [intsOf_some e1] at l1
        rw [intsOf_some e3] at l2
        obtain ⟨a, xs, rfl, ha, qa⟩ := lk_tup l1
        obtain ⟨b, ys, rfl, hb, qb⟩ := lk_tup l2
        have ea := dtAll_ints qa
        have eb := dtAll_ints qb
        subst ea eb
        exact .inr ⟨a, b, ns, ms, rfl, rfl, ha.sq, hb.sq, q _ H .refl dt_bl⟩
    | _ => cases e
  | _ => exact .inl (sem_lt (K := K) O H v1 v2 _ d2 d Q l1 l2 e here q)
end VS

namespace VS
variable {gf : Bool}
open PySem PySem.Spec PyProof.Rows L2
/-! ### dicts as data -/
def kget (kvs : List (Key × D)) (k : Key) : Option D := (kvs.find? fun p => decide (p.1 = k)).map (·.2)
def keyD : D → Option Key
  | .int i => some (.inl i)
  | .str x => some (.inr x)
  | _ => none
def kD : Key → D
  | .inl i => .int i
  | .inr x => .str x
theorem keyD_kD (k : Key) : keyD (kD k) = some k := by cases k <;> rfl
theorem keyD_some {d : D} {k : Key} (h : keyD d = some k) : d = kD k := by
  cases d with
  | int i => cases h; rfl
  | str x => cases h; rfl
  | _ => cases h
theorem lk_key {K : PySem.W.Frag} {O : Ow} {H : Hp} {k : Key} {v : V} (l : Lk K O H (kD k) v) : v = kV k := by
  cases k with
  | inl i => exact lk_int l
  | inr x => exact lk_str l
theorem dt_key {K : PySem.W.Frag} {O : Ow} {H : Hp} {k : Key} : Dt K O H (kD k) (kV k) := by
  cases k with
  | inl i => exact dt_int
  | inr x => exact dt_str
section
variable {K : PySem.W.Frag} {O : Ow} {H : Hp}
theorem dtKv_some {k : Key} {d : D} : ∀ {kvs : List (Key × D)} {es : List (Key × V)}, DtKv K O H kvs es → kget kvs k = some d → ∃ v, valV es k = some v ∧ Dt K O H d v
  | [], _, _, h => by cases h
  | (j, y) :: kvs, es, q, h => by
    unfold DtKv at q
    obtain ⟨x, r, rfl, h1, h2⟩ := q
    by_cases e : j = k
    · have h' : some y = some d := by
        have z : kget ((j, y) :: kvs) k = some y := by unfold kget; rw [List.find?_cons]; simp [e]
        rw [z] at h; exact h
      cases h'
      exact ⟨x, valV_pos e, h1⟩
    · have z : kget ((j, y) :: kvs) k = kget kvs k := by unfold kget; rw [List.find?_cons]; simp [e]
      rw [z] at h
      obtain ⟨v, e1, e2⟩ := dtKv_some h2 h
      exact ⟨v, by rw [valV_neg e]; exact e1, e2⟩
theorem dtKv_none {k : Key} : ∀ {kvs : List (Key × D)} {es : List (Key × V)}, DtKv K O H kvs es → kget kvs k = none → valV es k = none
  | [], _, q, _ => by unfold DtKv at q; subst q; rfl
  | (j, y) :: kvs, es, q, h => by
    unfold DtKv at q
    obtain ⟨x, r, rfl, h1, h2⟩ := q
    by_cases e : j = k
    · have z : kget ((j, y) :: kvs) k = some y := by unfold kget; rw [List.find?_cons]; simp [e]
      rw [z] at h; cases h
    · have z : kget ((j, y) :: kvs) k = kget kvs k := by unfold kget; rw [List.find?_cons]; simp [e]
      rw [z] at h
      rw [valV_neg e]
      exact dtKv_none h2 h
theorem dtKv_sz {k : Key} {kvs : List (Key × D)} {es : List (Key × V)} (q : DtKv K O H kvs es) : (valV es k).isSome = (kget kvs k).isSome := by
  cases e : kget kvs k with
  | none => rw [dtKv_none q e]; rfl
  | some d => obtain ⟨v, e1, _⟩ := dtKv_some q e; rw [e1]; rfl
theorem dtKv_keys : ∀ {kvs : List (Key × D)} {es : List (Key × V)}, DtKv K O H kvs es → es.map (·.1) = kvs.map (·.1)
  | [], _, q => by unfold DtKv at q; subst q; rfl
  | (j, y) :: kvs, es, q => by
    unfold DtKv at q
    obtain ⟨x, r, rfl, h1, h2⟩ := q
    rw [List.map_cons, List.map_cons, dtKv_keys h2]
theorem dtKv_get : ∀ {kvs : List (Key × D)} {es : List (Key × V)} {i : Nat} {k : Key} {d : D}, DtKv K O H kvs es → kvs[i]? = some (k, d) → ∃ v, es[i]? = some (k, v) ∧ Dt K O H d v
  | [], _, _, _, _, _, e => by simp at e
  | (j, y) :: kvs, es, 0, k, d, q, e => by
    unfold DtKv at q
    obtain ⟨x, r, rfl, h1, h2⟩ := q
    cases e
    exact ⟨x, rfl, h1⟩
  | (j, y) :: kvs, es, i + 1, k, d, q, e => by
    unfold DtKv at q
    obtain ⟨x, r, rfl, h1, h2⟩ := q
    exact dtKv_get (i := i) h2 e
theorem lk_dct {kvs : List (Key × D)} {v : V} (l : Lk K O H (.dct kvs) v) : ∃ a es, v = .ref a ∧ Rd H a (.dK es) ∧ DtKv K O H kvs es := l
end
/-! d[k] -/
def dIxK (x k : D) : Option D := match x with
  | .dct kvs => (keyD k).bind (kget kvs)
  | _ => dIx x k
def rDIx : R2 := fun x y H Q => ∃ a v, x = .ref a ∧ DGet H a y (some v) ∧ Q v H
theorem ix_dct {X : Cx} (hu : X.A.units + 1 < cLine) : IxR X rDIx := by
  intro value slice pins s σ H x y v u Q I rx ry q hs
  obtain ⟨a, w, rfl, g, q⟩ := q
  obtain rfl : v = Value.ref a := rx
  exact tail_any (dict_typeIs I g) PySem.F.slot_dict_getitem.lookup (d_getItem hu I g ry fun w' s3 I3 rw' => ⟨w, H, I3, rw', q⟩) hs
section
variable {X : Cx} {W : WX} {k : Nat} {a b : Expr} {f g : Mo Pl} {pos : Pos}
theorem se_ixK (cn : Cn X W k gf) (ha : PE X a (tP X.K W f)) (hb : PE X b (tP X.K W g)) (hs : PlainIx b := by exact fun _ _ => rfl) : PE X (.Subscript a b pos) (tE X.K W (opM dIxK f g)) := peI (pe_ix (IxR.or ix_seq (ix_dct (by have := Room.units cn.rm; omega))) ha hb hs) fun σ H Q q => op2 (r := fun x y H Q => _ ∨ rDIx x y H Q) (fun O H v1 v2 d1 d2 d Q l1 l2 e here q => by
  cases d1 with
  | dct kvs =>
    obtain ⟨key, ek, eg⟩ := bind_some (show (keyD d2).bind (kget kvs) = some d from e)
    rw [keyD_some ek] at l2
    have ey := lk_key l2
    subst ey
    obtain ⟨a, es, rfl, ra, qk⟩ := lk_dct l1
    obtain ⟨v, ev, dv⟩ := dtKv_some qk eg
    exact .inr ⟨a, v, rfl, .inl ⟨es, key, ra, rfl, ev.symm⟩, q v H .refl dv⟩
  | _ => exact .inl (sem_ix O H v1 v2 _ d2 d Q l1 l2 e here q)) q
end
/-! k in d -/
def dInK (x y : D) : Option D := match y with
  | .dct kvs => (keyD x).map fun k => .bl (kget kvs k).isSome
  | _ => dIn x y
def dNotInK (x y : D) : Option D := match y with
  | .dct kvs => (keyD x).map fun k => .bl (!(kget kvs k).isSome)
  | _ => dNotIn x y
def rDIn (neg : Bool) : R2 := fun y x H Q => ∃ a o, x = .ref a ∧ DGet H a y o ∧ Q (.bl (o.isSome ^^ neg)) H
theorem op_inD {X : Cx} (hu : X.A.units + 1 < cLine) : OpR X (compareOp .In) (rDIn false) := by
  intro pins s σ H y x u v Q I ry rx q
  obtain ⟨a, o, rfl, g, q⟩ := q
  obtain rfl : v = Value.ref a := rx
  exact d_in hu I g ry fun s3 I3 => ⟨.bl o.isSome, H, I3, rfl, by rw [Bool.xor_false] at q; exact q⟩
theorem op_notInD {X : Cx} (hu : X.A.units + 1 < cLine) : OpR X (compareOp .NotIn) (rDIn true) := by
  intro pins s σ H y x u v Q I ry rx q
  obtain ⟨a, o, rfl, g, q⟩ := q
  obtain rfl : v = Value.ref a := rx
  exact d_notIn hu I g ry fun s3 I3 => ⟨.bl (!o.isSome), H, I3, rfl, by rw [Bool.xor_true] at q; exact q⟩
theorem key_map {α : Type} {d : D} {g : Key → α} {r : α} (h : (keyD d).map g = some r) : ∃ k, d = kD k ∧ r = g k := by
  cases e : keyD d with
  | none => rw [e] at h; cases h
  | some k => rw [e] at h; cases h; exact ⟨k, keyD_some e, rfl⟩
section
variable {X : Cx} {W : WX} {k : Nat}
abbrev rInK (K : PySem.W.Frag) : R2 := fun x y H Q => (rInT K false x y H Q ∨ ∃ (c : Nat) (z : Str), x = .str ⟨#[c]⟩ ∧ y = .str z ∧ Q (.bl (decide (c ∈ z.cps.toList))) H) ∨ rDIn false x y H Q
abbrev rNotInK (K : PySem.W.Frag) : R2 := fun x y H Q => (rInT K true x y H Q ∨ ∃ (c : Nat) (z : Str), x = .str ⟨#[c]⟩ ∧ y = .str z ∧ Q (.bl (!decide (c ∈ z.cps.toList))) H) ∨ rDIn true x y H Q
theorem op_inX (cn : Cn X W k gf) : OpR X (compareOp .In) (rInK X.K) := OpR.or2 (op_inA cn) (op_inD (by have := Room.units cn.rm; omega))
theorem op_notInX (cn : Cn X W k gf) : OpR X (compareOp .NotIn) (rNotInK X.K) := OpR.or2 (op_notInA cn) (op_notInD (by have := Room.units cn.rm; omega))
theorem sem_inX {K : PySem.W.Frag} : RSem K (rInK K) dInK := fun O H v1 v2 d1 d2 d Q l1 l2 e here q => by
  cases d2 with
  | dct kvs =>
    obtain ⟨key, rfl, rfl⟩ := key_map (show (keyD d1).map (fun k => D.bl (kget kvs k).isSome) = some d from e)
    have ey := lk_key l1
    subst ey
    obtain ⟨a, es, rfl, ra, qk⟩ := lk_dct l2
    exact .inr ⟨a, _, rfl, .inl ⟨es, key, ra, rfl, rfl⟩, by rw [dtKv_sz qk, Bool.xor_false]; exact q _ H .refl dt_bl⟩
  | _ => exact .inl (sem_in O H v1 v2 d1 _ d Q l1 l2 e here q)
theorem sem_notInX {K : PySem.W.Frag} : RSem K (rNotInK K) dNotInK := fun O H v1 v2 d1 d2 d Q l1 l2 e here q => by
  cases d2 with
  | dct kvs =>
    obtain ⟨key, rfl, rfl⟩ := key_map (show (keyD d1).map (fun k => D.bl (!(kget kvs k).isSome)) = some d from e)
    have ey := lk_key l1
    subst ey
    obtain ⟨a, es, rfl, ra, qk⟩ := lk_dct l2
    exact .inr ⟨a, _, rfl, .inl ⟨es, key, ra, rfl, rfl⟩, by rw [dtKv_sz qk, Bool.xor_true]; exact q _ H .refl dt_bl⟩
  | _ => exact .inl (sem_notIn O H v1 v2 d1 _ d Q l1 l2 e here q)
end
/-! ### the keys, one by one -/
def keysD (kvs : List (Key × D)) : List D := kvs.map fun p => kD p.1
def dItemsK : D → Option (List D)
  | .dct kvs => some (keysD kvs)
  | d => dItems d
def itemsK (f : Mo D) : Mo (List D) := f >>= fun d => Mo.lift (dItemsK d)
theorem srv_keys {K : PySem.W.Frag} {O : Ow} {H : Hp} {kvs : List (Key × D)} {a : Addr} {ob : Obj} {es : List (Key × V)} (n : ¬ O a) (h : H a = some (.frz ob (.dK es))) (q : DtKv K O H kvs es) : Srv K O H (keysD kvs) (Itk a ob es) := fun O' H' s _ i => by
  obtain ⟨n', h'⟩ := s.keep n h
  have hl := dtKv_len q
  have lk : (keysD kvs).length = kvs.length := by unfold keysD; rw [List.length_map]
  refine ⟨fun d e => ?_, fun e => ⟨h', by omega⟩⟩
  have hi : i < kvs.length := by rw [← lk]; exact (List.getElem?_eq_some_iff.mp e).1
  have e1 : kvs[i]? = some kvs[i] := List.getElem?_eq_getElem hi
  unfold keysD at e
  rw [List.getElem?_map, e1] at e
  cases e
  refine ⟨⟨h', by omega⟩, fun x H2 y => ?_⟩
  obtain ⟨rfl, k, v, ek, rfl⟩ := y
  have z := congrArg (fun l => l[i]?) (dtKv_keys q)
  simp only [List.getElem?_map] at z
  rw [ek, e1] at z
  have ekk : k = kvs[i].1 := Option.some.inj z
  subst ekk
  exact ⟨.refl, dt_key⟩
theorem si_seqK {X : Cx} {W : WX} {tg e : Expr} {f : Mo D} (h : PE X e (tE X.K W f)) : PI X tg e (tI X.K W (itemsK f)) := by
  refine ⟨fun pins s σ H R I q => ?_⟩
  obtain ⟨φ, O, ρ, fm, q⟩ := q
  cases hf : f ρ with
  | no =>
    unfold fin itemsK at q
    rw [bind_eq, hf] at q
    exact q.elim
  | ex x ρ1 => exact (pi_list (tg := tg) h).run pins s σ H R I (fin_bindX (rel := rD X.K) fm hf q)
  | ok d ρ1 =>
    have b := fin_bindE (rel := rD X.K) fm hf q
    cases d with
    | dct kvs =>
      refine (pi_keys (tg := tg) h).run pins s σ H R I (tX_mono b fun v H1 ⟨O1, f1, s1, r1, q1⟩ => ?_)
      unfold rD Dt at r1
      obtain ⟨a, ob, es, rfl, n, ha, qk⟩ := r1
      exact ⟨a, ob, rfl, .inl ⟨es, ha, q1 _ O1 H1 f1 .refl (srv_keys n ha qk)⟩⟩
    | _ =>
      refine (si_seq (tg := tg) h).run pins s σ H R I ⟨φ, O, ρ, fm, ?_⟩
      unfold fin itemsM
      unfold fin itemsK at q
      rw [bind_eq, hf] at q ⊢
      exact q
/-! ### dicts that are made -/
theorem fresh_dct {K : PySem.W.Frag} {φ : Fx} {O : Ow} {ρ : List Sl} {σ : L2.St} {H : Hp} {p : Addr} {kvs : List (Key × D)} {es : List (Key × V)} (fm : Fm K φ O ρ σ H) (hp : H p = none) (q : DtKv K O H kvs es) :
    Fm K φ (plus O p) ρ σ (upd H p (.dK es)) ∧ Stp O H (plus O p) (upd H p (.dK es)) ∧ rF K φ σ (plus O p) (upd H p (.dK es)) ρ (.dct kvs) (.ref p) :=
  ⟨fm.new hp, stp_new hp, p, rfl, .inr rfl, fm.h0 hp, fm.noslot hp, fm.pr0 hp, es, upd_same, q.step (stp_new hp)⟩
theorem sf_dnil {X : Cx} {W : WX} {pos : Pos} : PE X (.Dict [] [] pos) (tF X.K W (pure (.dct []))) := peI pe_dnewK fun σ H Q ⟨φ, O, ρ, fm, q⟩ p hp => by
  obtain ⟨f1, s1, r1⟩ := fresh_dct (K := X.K) (kvs := []) (es := []) fm hp (by unfold DtKv; rfl)
  exact q _ (plus O p) _ f1 s1 r1
def kput (kvs : List (Key × D)) (k : Key) (v : D) : List (Key × D) :=
  if (kvs.any fun p => decide (p.1 = k)) = true then kvs.map (fun p => if p.1 = k then (p.1, v) else p) else kvs ++ [(k, v)]
def kmerge (kvs more : List (Key × D)) : List (Key × D) := more.foldl (fun acc p => kput acc p.1 p.2) kvs
theorem dtKv_app {K : PySem.W.Frag} {O : Ow} {H : Hp} : ∀ {a b : List (Key × D)} {xs ys : List (Key × V)}, DtKv K O H a xs → DtKv K O H b ys → DtKv K O H (a ++ b) (xs ++ ys)
  | [], _, _, _, h, g => by unfold DtKv at h; subst h; exact g
  | (k, d) :: a, _, _, _, h, g => by
    unfold DtKv at h
    obtain ⟨x, r, rfl, h1, h2⟩ := h
    show DtKv K O H ((k, d) :: (a ++ _)) _
    unfold DtKv
    exact ⟨x, _, rfl, h1, dtKv_app h2 g⟩
theorem dtKv_put {K : PySem.W.Frag} {O : Ow} {H : Hp} {kvs : List (Key × D)} {es : List (Key × V)} {k : Key} {d : D} {v : V} (q : DtKv K O H kvs es) (dv : Dt K O H d v) : DtKv K O H (kput kvs k d) (putK es k v) := by
  have any : ∀ {kvs : List (Key × D)} {es : List (Key × V)}, DtKv K O H kvs es → (es.any fun p => decide (p.1 = k)) = kvs.any fun p => decide (p.1 = k) := by
    intro kvs
    induction kvs with
    | nil => intro es q; unfold DtKv at q; subst q; rfl
    | cons p kvs ih =>
      intro es q
      obtain ⟨j, y⟩ := p
      unfold DtKv at q
      obtain ⟨x, r, rfl, _, h2⟩ := q
      rw [List.any_cons, List.any_cons, ih h2]
  have rep : ∀ {kvs : List (Key × D)} {es : List (Key × V)}, DtKv K O H kvs es → DtKv K O H (kvs.map fun p => if p.1 = k then (p.1, d) else p) (es.map fun p => if p.1 = k then (p.1, v) else p) := by
    intro kvs
    induction kvs with
    | nil => intro es q; unfold DtKv at q; subst q; show DtKv K O H [] []; unfold DtKv; rfl
    | cons p kvs ih =>
      intro es q
      obtain ⟨j, y⟩ := p
      unfold DtKv at q
      obtain ⟨x, r, rfl, h1, h2⟩ := q
      rw [List.map_cons, List.map_cons]
      by_cases e : j = k
      · simp only [e, if_true]
        unfold DtKv
        exact ⟨v, _, rfl, dv, ih h2⟩
      · simp only [e, if_false]
        unfold DtKv
        exact ⟨x, _, rfl, h1, ih h2⟩
  unfold kput putK
  rw [any q]
  split
  · exact rep q
  · refine dtKv_app q ?_
    unfold DtKv
    exact ⟨v, [], rfl, dv, by unfold DtKv; rfl⟩
theorem dtKv_merge {K : PySem.W.Frag} {O : Ow} {H : Hp} : ∀ {more kvs : List (Key × D)} {ms es : List (Key × V)}, DtKv K O H more ms → DtKv K O H kvs es → DtKv K O H (kmerge kvs more) (mergeK es ms)
  | [], _, _, _, h, q => by unfold DtKv at h; subst h; exact q
  | (k, d) :: more, kvs, ms, es, h, q => by
    unfold DtKv at h
    obtain ⟨x, r, rfl, h1, h2⟩ := h
    show DtKv K O H (kmerge (kput kvs k d) more) (mergeK (putK es k x) r)
    exact dtKv_merge h2 (dtKv_put q h1)
/-! dict(pairs) -/
def prsD : List D → Option (List (Key × D))
  | [] => some []
  | .tup [k, v] :: ds => match keyD k, prsD ds with
    | some k, some r => some ((k, v) :: r)
    | _, _ => none
  | _ => none
theorem prs_dt {K : PySem.W.Frag} {O : Ow} {H : Hp} : ∀ {ds : List D} {xs : List V} {kvs : List (Key × D)}, DtAll K O H ds xs → prsD ds = some kvs → ∃ (ps : List Addr) (es : List (Key × V)), xs = ps.map V.ref ∧ Paired (fun p kv => SqT K H p [kV kv.1, kv.2]) ps es ∧ DtKv K O H kvs es
  | [], xs, kvs, h, e => by
    unfold DtAll at h
    cases e
    exact ⟨[], [], h, .nil, by unfold DtKv; rfl⟩
  | d :: ds, xs, kvs, h, e => by
    unfold DtAll at h
    obtain ⟨x, r, rfl, h1, h2⟩ := h
    unfold prsD at e
    split at e
    · rename_i heq
      cases heq
    · rename_i k v ds' heq
      cases heq
      split at e
      · rename_i key kr ek er
        cases e
        obtain ⟨ps, es, rfl, hp, hk⟩ := prs_dt h2 er
        unfold Dt at h1
        obtain ⟨a, ys, rfl, ha, q⟩ := h1
        unfold DtAll at q
        obtain ⟨y1, r1, rfl, q1, q2⟩ := q
        unfold DtAll at q2
        obtain ⟨y2, r2, rfl, q3, q4⟩ := q2
        unfold DtAll at q4
        subst q4
        rw [keyD_some ek] at q1
        have e1 := lk_key q1.lk
        subst e1
        refine ⟨a :: ps, (key, y2) :: es, rfl, .cons ha.sq hp, ?_⟩
        unfold DtKv
        exact ⟨y2, es, rfl, q3, hk⟩
      · cases e
    · cases e
def dDictP (d : D) : Option D := match d with
  | .lst ds => (prsD ds).map fun kvs => .dct (kmerge [] kvs)
  | _ => none
/-- a new thing by a built-in: what is needed of the data -/
def dictM (f : Mo D) : Mo D := f >>= fun d => Mo.lift (dDictP d)
theorem sf_dictP {X : Cx} {W : WX} {k : Nat} {e : Expr} {f : Mo D} {p pos : Pos} (cn : Cn X W k gf) (he : PE X e (tE X.K W f)) (hm : X.mg "dict" = none) (hg : Gl X "dict" := by rfl) (hst : starEach [e] X.env = (false, eval e X.env) :: starEach [] X.env := by rfl) : PE X (.Call (.Name "dict" p) [e] [] pos) (tF X.K W (dictM f)) := by
  refine peI (pe_callTy (call_dictP cn.cm) hg hm (by decide +kernel) (pa_cons he pa_nil hst) (by decide) (by decide) hst rfl) fun σ H Q q => ?_
  obtain ⟨φ, O, ρ, fm, q⟩ := q
  refine tX_mono (fin_bind (rel := rD X.K) fm q) fun v H1 ⟨O1, ρ1, d, f1, s1, r1, q1⟩ => ?_
  obtain ⟨r, er, q1⟩ := fin_lift q1
  have dt : Dt X.K O1 H1 d v := r1
  cases d with
  | lst ds =>
    have er' : (prsD ds).map (fun kvs => D.dct (kmerge [] kvs)) = some r := er
    cases ep : prsD ds with
    | none => rw [ep] at er'; cases er'
    | some kvs =>
      rw [ep] at er'
      cases er'
      unfold Dt at dt
      obtain ⟨a, xs, rfl, nO, ha, qa⟩ := dt
      obtain ⟨ps, es, rfl, hp, hk⟩ := prs_dt qa ep
      refine ⟨a, ps, es, rfl, SqL.of ha, hp, fun q hq => ?_⟩
      obtain ⟨f2, s2, r2⟩ := fresh_dct (K := X.K) f1 hq (dtKv_merge hk (show DtKv X.K O1 H1 [] [] by unfold DtKv; rfl))
      exact q1 _ _ _ f2 s2 r2
  | _ => cases er
/-! list(d) -/
def dListK : D → Option D
  | .dct kvs => some (.lst (keysD kvs))
  | d => dList [d]
theorem dtAll_keys {K : PySem.W.Frag} {O : Ow} {H : Hp} : ∀ kvs : List (Key × D), DtAll K O H (keysD kvs) (kvs.map fun p => kV p.1)
  | [] => by show DtAll K O H [] []; unfold DtAll; rfl
  | (k, d) :: kvs => by
    show DtAll K O H (kD k :: keysD kvs) (kV k :: _)
    unfold DtAll
    exact ⟨_, _, rfl, dt_key, dtAll_keys kvs⟩
def listK (f : Mo Pl) : Mo D := f >>= fun p => look p >>= fun d => Mo.lift (dListK d)
def rListK (X : Cx) : List V → Hp → VK → Prop := fun xs H Q => rListA X.K xs H Q ∨ ∃ (a : Addr) (kvs : List (Key × V)), xs = [.ref a] ∧ Rd H a (.dK kvs) ∧ ∀ p, H p = none → Q (.ref p) (upd H p (.lst (kvs.map fun kv => kV kv.1)))
theorem call_listK {X : Cx} (hc : X.calm = true) : CallR X (.type "list") (rListK X) := by
  intro pins s σ H xs us Q I r q
  rcases q with q | q
  · exact call_list_of pins s σ H xs us Q I r q
  · exact call_listD hc pins s σ H xs us Q I r q
theorem sf_list {X : Cx} {W : WX} {k : Nat} {e : Expr} {f : Mo Pl} {p pos : Pos} (cn : Cn X W k gf) (he : PE X e (tP X.K W f)) (hm : X.mg "list" = none) (hg : Gl X "list" := by rfl) (hst : starEach [e] X.env = (false, eval e X.env) :: starEach [] X.env := by rfl) : PE X (.Call (.Name "list" p) [e] [] pos) (tF X.K W (listK f)) := by
  refine peI (pe_callTy (call_listK cn.cm) hg hm (by decide +kernel) (pa_cons he pa_nil hst) (by decide) (by decide) hst rfl) fun σ H Q q => ?_
  obtain ⟨φ, O, ρ, fm, q⟩ := q
  refine tX_mono (fin_bind (rel := rP X.K) fm q) fun v H1 ⟨O1, ρ1, pl, f1, s1, r1, q1⟩ => ?_
  obtain ⟨d, ld, q1⟩ := fin_look f1 (rP_ok r1) q1
  obtain ⟨r, er, q1⟩ := fin_lift q1
  have fin' : ∀ (ds : List D) (xs : List V) (q : Addr), r = .lst ds → H1 q = none → DtAll X.K O1 H1 ds xs → Q (.ref q) (upd H1 q (.lst xs)) := fun ds xs q er hq qa => by
    subst er
    exact q1 _ (plus O1 q) _ (f1.new hq) (stp_new hq) ⟨q, rfl, .inr rfl, f1.h0 hq, f1.noslot hq, f1.pr0 hq, xs, upd_same, qa.step (stp_new hq)⟩
  cases d with
  | dct kvs =>
    cases er
    obtain ⟨a, es, rfl, ra, qk⟩ := lk_dct ld
    have ek : (es.map fun kv => kV kv.1) = kvs.map fun p => kV p.1 := by
      have e := congrArg (List.map kV) (dtKv_keys qk)
      rw [List.map_map, List.map_map] at e
      exact e
    exact .inr ⟨a, es, rfl, ra, fun q hq => fin' _ _ q rfl hq (by rw [ek]; exact dtAll_keys kvs)⟩
  | lst ds =>
    cases er
    obtain ⟨a, us, rfl, ha, qa⟩ := ld
    exact .inl ⟨a, us, rfl, .inl (SqL.of ha), fun q hq => fin' _ _ q rfl hq qa⟩
  | tup ds =>
    cases er
    obtain ⟨a, us, rfl, ha, qa⟩ := lk_tup ld
    exact .inl ⟨a, us, rfl, .inr ha.sq, fun q hq => fin' _ _ q rfl hq qa⟩
  | _ => cases er
end VS

namespace VS
variable {gf : Bool}
open PySem PySem.Spec PyProof.Rows L2
/-! ### dict comprehensions -/
def dcR (vs : List Nat) (t : Tm) (c : Mo Bool) (ek ev : Mo D) : List (Key × D) → List D → List Sl → Rs D
  | acc, [], ρ => .ok (.dct acc) ρ
  | acc, d :: ds, ρ => match t d ρ with
    | none => .no
    | some ρ2 => match c ρ2 with
      | .ok true ρ3 => match ek ρ3 with
        | .ok kd ρ4 => match ev ρ4 with
          | .ok x ρ5 => match keyD kd with
            | some k => if acc.length < sizeLine then dcR vs t c ek ev (kput acc k x) ds (wipeS ρ5 vs) else .no
            | none => .no
          | _ => .no
        | _ => .no
      | .ok false ρ3 => dcR vs t c ek ev acc ds (wipeS ρ3 vs)
      | _ => .no
def dcM (vs : List Nat) (src : Mo (List D)) (t : Tm) (c : Mo Bool) (ek ev : Mo D) : Mo D := src >>= fun ds ρ => dcR vs t c ek ev [] ds (wipeS ρ vs)
theorem DtKv.stp {K : PySem.W.Frag} {O O' : Ow} {H H' : Hp} {kvs : List (Key × D)} {es : List (Key × V)} (h : DtKv K O H kvs es) (s : Stp O H O' H') : DtKv K O' H' kvs es := DtKv.step s kvs es h
theorem dc_ok {K : PySem.W.Frag} {W : WX} {g : TG} {is : List Nat} {t : Tm} {src : Mo (List D)} {c : Mo Bool} {ek ev : Mo D} {vs : List Nat} (hs : TSem K g is t) (hsub : ∀ i ∈ is, i ∈ vs) {σ : L2.St} {H : Hp} {Q : VK} (q : tX K W (rF K) (dcM vs src t c ek ev) σ H Q) : tDc (tI K W src) g (tT K W0 c) (tE K W0 ek) (tE K W0 ev) vs σ H Q := by
  obtain ⟨φ, O, ρ, fm, q⟩ := q
  refine tX_mono (fin_bind (rel := rIt K) fm q) fun J H1 ⟨O1, ρ1, ds, f1, s1, sv, q⟩ => ?_
  intro Dn hD
  have n0 := f1.h0 hD
  have p0 := f1.pr0 hD
  have fw := (f1.wipes vs).new (o := .dK []) hD
  have sD : Stp O1 H1 (plus O1 Dn) (upd H1 Dn (.dK [])) := stp_new hD
  refine ⟨fun i n H' => n = ds.length - i ∧ i ≤ ds.length ∧ ∃ O' ρ' acc xs, Fm K (φ.hold Dn (.dK xs)) O' ρ' (wipe σ vs) H' ∧ Wp vs ρ' ∧ Stp O1 H1 O' H' ∧ DtKv K O' H' acc xs ∧ fin K W (rF K) φ (dcR vs t c ek ev acc (ds.drop i)) σ O' ρ' H' Q,
    ⟨ds.length, rfl, Nat.zero_le _, plus O1 Dn, wipeS ρ1 vs, [], [], fw.hold (.inr rfl) upd_same ?_, wp_wipeS, sD, by unfold DtKv; rfl, fin_step sD q⟩, ?_⟩
  · exact (f1.wipes vs).noslot hD
  rintro i n H' ⟨rfl, hi, O', ρ', acc, xs, f', wp, s', da, q'⟩
  obtain ⟨go, stop⟩ := sv O' H' s' f'.here i
  obtain ⟨oD, hD', nsD⟩ := f'.held
  by_cases hl : i = ds.length
  · refine .inl ⟨stop hl, ?_⟩
    subst hl
    rw [List.drop_length] at q'
    have f2 := (f'.free p0).unwipe wp
    refine q' _ O' H' f2 .refl ⟨Dn, rfl, oD, n0, ?_, p0, ⟨xs, hD', da⟩⟩
    intro j s e m z
    refine nsD j s e m ?_
    rw [wipe_out fun hj => ?_]
    · exact z
    · have := wp j s hj e
      subst this
      exact m
  · have hlt : i < ds.length := by omega
    obtain ⟨d, ed⟩ : ∃ d, ds[i]? = some d := ⟨_, List.getElem?_eq_getElem hlt⟩
    obtain ⟨gg, yl⟩ := go d ed
    refine .inr ⟨gg, fun H2 => ∃ O2 ρ2 acc xs, Fm K (φ.hold Dn (.dK xs)) O2 ρ2 (wipe σ vs) H2 ∧ Wp vs ρ2 ∧ Stp O1 H1 O2 H2 ∧ DtKv K O2 H2 acc xs ∧ fin K W (rF K) φ (dcR vs t c ek ev acc (ds.drop (i + 1))) σ O2 ρ2 H2 Q,
      fun H2 z => ⟨ds.length - (i + 1), by omega, rfl, hlt, z⟩, fun x H2 y => ?_⟩
    obtain ⟨ex, dx⟩ := yl x H2 y
    have f2 := f'.ext ex
    have s2 : Stp O1 H1 O' H2 := s'.trans ex.stp
    rw [drop_get ed] at q'
    have q2 := fin_step (ex.stp (O := O')) q'
    unfold fin at q2
    unfold dcR at q2
    cases e1 : t d ρ' with
    | none => rw [e1] at q2; exact q2.elim
    | some ρ2 =>
      rw [e1] at q2
      dsimp only at q2
      refine hs _ O' ρ' ρ2 _ H2 d x _ f2 dx e1 fun σ2 f3 w3 => ⟨(w3 vs hsub).trans wipe_wipe, ?_⟩
      have ew : wipe σ2 vs = wipe σ vs := (w3 vs hsub).trans wipe_wipe
      refine ⟨φ.hold Dn (.dK xs), O', ρ2, f3, ?_⟩
      unfold fin
      cases e2 : c ρ2 with
      | no => rw [e2] at q2; exact q2
      | ex _ _ => rw [e2] at q2; exact q2.elim
      | ok b ρ3 =>
        rw [e2] at q2
        intro b' O3 H3 f4 s4 eb
        have eb' : b = b' := eb
        subst eb'
        cases b with
        | false =>
          rw [if_neg (by decide)]
          have fw4 := f4.wipes vs
          rw [ew] at fw4
          exact ⟨O3, wipeS ρ3 vs, acc, xs, fw4, wp_wipeS, s2.trans s4, da.stp (ex.stp.trans s4), fin_step s4 q2⟩
        | true =>
          rw [if_pos rfl]
          refine ⟨φ.hold Dn (.dK xs), O3, ρ3, f4, ?_⟩
          unfold fin
          dsimp only at q2
          cases e3 : ek ρ3 with
          | no => rw [e3] at q2; exact q2
          | ex _ _ => rw [e3] at q2; exact q2.elim
          | ok kd ρ4 =>
            rw [e3] at q2
            dsimp only at q2
            intro vk O4 H4 f5 s5 dk
            refine ⟨φ.hold Dn (.dK xs), O4, ρ4, f5, ?_⟩
            unfold fin
            cases e4 : ev ρ4 with
            | no => rw [e4] at q2; exact q2
            | ex _ _ => rw [e4] at q2; exact q2.elim
            | ok r ρ5 =>
              rw [e4] at q2
              dsimp only at q2
              intro v O5 H5 f6 s6 dv
              cases e5 : keyD kd with
              | none => rw [e5] at q2; exact q2.elim
              | some key =>
                rw [e5] at q2
                dsimp only at q2
                obtain ⟨oD5, hD5, _⟩ := f6.held
                have da5 := da.stp (((ex.stp.trans s4).trans s5).trans s6)
                have hlen := dtKv_len da5
                have dk' : Dt K O4 H4 kd vk := dk
                rw [keyD_some e5] at dk'
                have evk := lk_key dk'.lk
                by_cases hz : acc.length < sizeLine
                · rw [if_pos hz] at q2
                  refine ⟨xs, key, evk, hD5, by rw [← hlen]; exact hz, ?_⟩
                  have sm : Stp O5 H5 O5 (upd H5 Dn (.dK (putK xs key v))) := stp_mut oD5
                  have fw5 := (f6.pmut (o' := .dK (putK xs key v)) n0).wipes vs
                  rw [ew] at fw5
                  have dv' : Dt K O5 H5 r v := dv
                  exact ⟨O5, wipeS ρ5 vs, kput acc key r, putK xs key v, fw5, wp_wipeS, (((s2.trans s4).trans s5).trans s6).trans sm, (dtKv_put da5 dv').stp sm, fin_step (((s4.trans s5).trans s6).trans sm) q2⟩
                · rw [if_neg hz] at q2
                  exact q2.elim
section
variable {X : Cx} {W : WX} {k : Nat}
theorem sf_dc {kx vx tg iter : Expr} {ifs : List Expr} {scope : Scope} {own : List (Str × Nat)} {pos : Pos} {g : TG} {is : List Nat} {t : Tm} {src : Mo (List D)} {c : Mo Bool} {ek ev : Mo D} (cn : Cn X W k gf) (hN : X.N.Nodup) (hi : PI X tg iter (tI X.K W src)) (ok : BlkOk X.N X.env.scope scope own)
    (hg : ∀ (s : Shared) (H : Hp) (C : Addr) (cl : List (Str × Addr)) (fp : List Addr), PG (X.blk s H scope (compEnvC scope cl C X.env) fp) tg g) (hs : TSem X.K g is t) (hsub : ∀ i ∈ is, i ∈ own.map (·.2))
    (ht : ∀ (s : Shared) (H : Hp) (C : Addr) (cl : List (Str × Addr)) (fp : List Addr), Cn (X.blk s H scope (compEnvC scope cl C X.env) fp) W0 k gf → PTs (X.blk s H scope (compEnvC scope cl C X.env) fp) ifs (tT X.K W0 c))
    (hk : ∀ (s : Shared) (H : Hp) (C : Addr) (cl : List (Str × Addr)) (fp : List Addr), Cn (X.blk s H scope (compEnvC scope cl C X.env) fp) W0 k gf → PE (X.blk s H scope (compEnvC scope cl C X.env) fp) kx (tE X.K W0 ek))
    (he : ∀ (s : Shared) (H : Hp) (C : Addr) (cl : List (Str × Addr)) (fp : List Addr), Cn (X.blk s H scope (compEnvC scope cl C X.env) fp) W0 k gf → PE (X.blk s H scope (compEnvC scope cl C X.env) fp) vx (tE X.K W0 ev))
    (hf : ∀ x, foldedSetIterable iter X.env x = pure x := by intro _; rfl) : PE X (.DictComp kx vx [⟨tg, iter, ifs, 0⟩] scope pos) (tF X.K W (dcM (own.map (·.2)) src t c ek ev)) :=
  peI (pe_dc cn.cm hN hi ok hg (fun s H C cl fp => ht s H C cl fp cn.blk) (fun s H C cl fp => hk s H C cl fp cn.blk) (fun s H C cl fp => he s H C cl fp cn.blk) hf) fun σ H Q q => dc_ok hs hsub q
end
section
variable {ρ : List Sl} {R : Ex → List Sl → Prop} {Qd : D → List Sl → Prop} {vs : List Nat} {t : Tm} {c : Mo Bool} {src : Mo (List D)} {ek ev : Mo D}
@[simp] theorem wp_dc : wp (dcM vs src t c ek ev) ρ Qd R = wp src ρ (fun ds ρ' => wpR (dcR vs t c ek ev [] ds (wipeS ρ' vs)) Qd R) R := by
  have h := wp_bind (ρ := ρ) (Q2 := Qd) (R := R) (m := src) (k := fun ds => (fun ρ => dcR vs t c ek ev [] ds (wipeS ρ vs) : Mo D))
  unfold wp at h ⊢
  exact h
theorem dc_inv {ds : List D} {acc : List (Key × D)} (I : Nat → List (Key × D) → List Sl → Prop) (h0 : I 0 acc ρ) (hn : ∀ acc' ρ', I ds.length acc' ρ' → Qd (.dct acc') ρ')
    (hs : ∀ i d acc' ρ', ds[i]? = some d → I i acc' ρ' → ∃ ρ2, t d ρ' = some ρ2 ∧ wp c ρ2 (fun b ρ3 => if b = true then wp ek ρ3 (fun kd ρ4 => wp ev ρ4 (fun x ρ5 => ∃ k, keyD kd = some k ∧ acc'.length < sizeLine ∧ I (i + 1) (kput acc' k x) (wipeS ρ5 vs)) R0) R0 else I (i + 1) acc' (wipeS ρ3 vs)) R0) : wpR (dcR vs t c ek ev acc ds ρ) Qd R := by
  induction ds generalizing acc ρ I with
  | nil => exact hn acc ρ h0
  | cons d ds ih =>
    unfold dcR
    obtain ⟨ρ2, e1, h1⟩ := hs 0 d acc ρ rfl h0
    rw [e1]
    dsimp only
    unfold wp wpR at h1
    cases e2 : c ρ2 with
    | no => rw [e2] at h1; exact h1.elim
    | ex _ _ => rw [e2] at h1; exact h1.elim
    | ok b ρ3 =>
      rw [e2] at h1
      cases b with
      | false => exact ih (fun i => I (i + 1)) h1 (fun a r h => hn a r h) fun i d a r q h => hs (i + 1) d a r q h
      | true =>
        have h1' : wp ek ρ3 (fun kd ρ4 => wp ev ρ4 (fun x ρ5 => ∃ k, keyD kd = some k ∧ acc.length < sizeLine ∧ I 1 (kput acc k x) (wipeS ρ5 vs)) R0) R0 := by unfold wp wpR; exact h1
        unfold wp wpR at h1'
        dsimp only
        cases e3 : ek ρ3 with
        | no => rw [e3] at h1'; exact h1'.elim
        | ex _ _ => rw [e3] at h1'; exact h1'.elim
        | ok kd ρ4 =>
          rw [e3] at h1'
          dsimp only at h1' ⊢
          cases e4 : ev ρ4 with
          | no => rw [e4] at h1'; exact h1'.elim
          | ex _ _ => rw [e4] at h1'; exact h1'.elim
          | ok x ρ5 =>
            rw [e4] at h1'
            obtain ⟨k, ek', hz, hi⟩ := h1'
            dsimp only
            rw [ek']
            dsimp only
            rw [if_pos hz]
            exact ih (fun i => I (i + 1)) hi (fun a r h => hn a r h) fun i d a r q h => hs (i + 1) d a r q h
end
/-! ### list(d.values()), list(d.items()) -/
section
variable {X : Cx} {W : WX} {k : Nat} {e : Expr} {f : Mo Pl} {p apos cpos pos : Pos} {te : TE}
def tListVals (te : TE) : TE := fun σ H Q => te σ H fun x H1 => ∃ (d : Addr) (kvs : List (Key × V)), x = .ref d ∧ Rd H1 d (.dK kvs) ∧ ∀ p, H1 p = none → Q (.ref p) (upd H1 p (.lst (kvs.map (·.2))))
theorem vals_snd : ∀ {kvs : List (Key × V)} {vs : List (Key × Value)}, KV kvs vs → Vals (kvs.map (·.2)) (vs.map (·.2))
  | _, _, .nil => .nil
  | _, _, .cons h t => .cons h.2 (vals_snd t)
theorem pe_listVals (hc : X.calm = true) (he : PE X e te) (hm : X.mg "list" = none) (hg : Gl X "list" := by rfl) (hv : bootBuiltins "list" = some (.type "list") := by decide +kernel) (hbase : attributeBase e "values" X.env (eval e X.env) = eval e X.env := by rfl) (hline : (apos.endLine == cpos.line) = true := by rfl)
    (hs : starEach [.Call (.Attribute e "values" apos) [] [] cpos] X.env = (false, eval (.Call (.Attribute e "values" apos) [] [] cpos) X.env) :: starEach [] X.env := by rfl) :
    PE X (.Call (.Name "list" p) [.Call (.Attribute e "values" apos) [] [] cpos] [] pos) (tListVals te) := by
  refine ⟨fun pins s σ H Q I hq => ?_⟩
  refine wpAny_Call_Name_kw (ld_blt I hg hm hv ?_)
  refine PyProof.Rows.callWith_type1 ?_ hs rfl
  rw [hs]
  show wpAny _ _ (spliced ((false, eval (.Call (.Attribute e "values" apos) [] [] cpos) X.env) :: backTo pos (starEach [] X.env))) _ _ s
  refine Calls.spliced_cons ?_
  refine wpAny_Call_method (T := "dict") (id := "dict.values") hbase rfl hline F.plainAttrs_dict F.slot_dict_values F.type_dict_values (thn (he.run pins s σ H _ I hq) fun u s1 ⟨x, H1, I1, rx, d, kvs, ex, hd, q⟩ => ?_)
  subst ex
  obtain rfl : u = Value.ref d := rx
  obtain ⟨hz, hs0, vs, kv, hdo⟩ := dk_rd I1.hok hd
  obtain ⟨ep, hat⟩ := hdo.dictAt
  have lk : kvs.length = vs.length := Paired.length kv
  have I2 : Inv X pins σ H1 { s1 with heap := s1.heap.push { cls := .type "dict_values", data := .fields #[.ref d] } } := I1.kept (t' := s1.toks) fun b ob q => Heap.get?_push_of_some _ q
  refine ⟨hdo.typeIs, hdo.mapOf.noDict, ?_⟩
  show wpAny _ _ (callWith cpos (.builtin "dict.values") [.ref d] [] []) _ X.xe s1
  refine method_meetsIn F.slot_dict_values F.entry_dict_values rfl (PySem.evalArgs_none ⟨rfl, hdo.typeIs, F.args_dict_values_1 _, _, meets_dict_values (mixKind X.prog X.w) d hs0, ⟨vs, hdo⟩, ?_⟩)
  refine Calls.spliced_nil ?_
  refine PySem.W.kdl_call (PySem.W.kdl_values (r := s1.heap.objs.size) (d := d) (knd := mixKind X.prog X.w) (kvs := vs) (ep := ep)) (I1.ok.hd hc) ⟨⟨_, Heap.get?_push_size _ rfl, rfl, rfl⟩, hat.push _⟩ (by omega) fun h' tk acc c' hk hD hacc => ?_
  have hev : acc.toList = vs.map (·.2) := PySem.W.kdl_vals_eq acc.toList (by rw [Array.length_toList]; exact hacc.1) fun j v e => hacc.2 j v (by rw [← Array.getElem?_toList]; exact e)
  have rv : Vals (kvs.map (·.2)) acc.toList := by rw [hev]; exact vals_snd kv
  refine ⟨V.ref (s1.heap.push { cls := .type "dict_values", data := .fields #[.ref d] }).objs.size, _, I2.laid (t' := tk) hk (Nat.le_refl _) (show ObjOk X.prog X.w _ _ _ (.lst (kvs.map (·.2))) from ⟨by rw [List.length_map]; exact hz, acc.toList, c', rv, by rw [Array.toArray_toList]; exact hD⟩), rfl, q _ (I2.hok.fresh (Nat.le_refl _))⟩
def rItemsR : V → Hp → VK → Prop := fun x H Q => ∃ (d : Addr) (kvs : List (Key × V)), x = .ref d ∧ Rd H d (.dK kvs) ∧
  ∀ (H' : Hp) (p : Addr) (ts : List Addr), (∀ b o, H b = some o → H' b = some o) → H p = none → (∀ t ∈ ts, H t = none) → p ∉ ts → H' p = some (.lst (ts.map V.ref)) → Paired (fun (t : Addr) (q : Key × V) => H' t = some (.tup [kV q.1, q.2])) ts kvs → Q (.ref p) H'
theorem pe_listItemsR (hc : X.calm = true) (he : PE X e te) (hm : X.mg "list" = none) (hg : Gl X "list" := by rfl) (hv : bootBuiltins "list" = some (.type "list") := by decide +kernel) (hbase : attributeBase e "items" X.env (eval e X.env) = eval e X.env := by rfl) (hline : (apos.endLine == cpos.line) = true := by rfl)
    (hs : starEach [.Call (.Attribute e "items" apos) [] [] cpos] X.env = (false, eval (.Call (.Attribute e "items" apos) [] [] cpos) X.env) :: starEach [] X.env := by rfl) :
    PE X (.Call (.Name "list" p) [.Call (.Attribute e "items" apos) [] [] cpos] [] pos) (fun σ H Q => te σ H fun x H1 => rItemsR x H1 Q) := by
  refine ⟨fun pins s σ H Q I hq => ?_⟩
  refine wpAny_Call_Name_kw (ld_blt I hg hm hv ?_)
  refine PyProof.Rows.callWith_type1 ?_ hs rfl
  rw [hs]
  show wpAny _ _ (spliced ((false, eval (.Call (.Attribute e "items" apos) [] [] cpos) X.env) :: backTo pos (starEach [] X.env))) _ _ s
  refine Calls.spliced_cons ?_
  refine wpAny_Call_method (T := "dict") (id := "dict.items") hbase rfl hline F.plainAttrs_dict F.slot_dict_items F.type_dict_items (thn (he.run pins s σ H _ I hq) fun u s1 ⟨x, H1, I1, rx, d, kvs, ex, hd, q⟩ => ?_)
  subst ex
  obtain rfl : u = Value.ref d := rx
  obtain ⟨hz, hs0, vs, kv, hdo⟩ := dk_rd I1.hok hd
  obtain ⟨ep, hat⟩ := hdo.dictAt
  have lk : kvs.length = vs.length := Paired.length kv
  have I2 : Inv X pins σ H1 { s1 with heap := s1.heap.push { cls := .type "dict_items", data := .fields #[.ref d] } } := I1.kept (t' := s1.toks) fun b ob q => Heap.get?_push_of_some _ q
  refine ⟨hdo.typeIs, hdo.mapOf.noDict, ?_⟩
  show wpAny _ _ (callWith cpos (.builtin "dict.items") [.ref d] [] []) _ X.xe s1
  refine method_meetsIn F.slot_dict_items F.entry_dict_items rfl (PySem.evalArgs_none ⟨rfl, hdo.typeIs, F.args_dict_items_1 _, _, meets_dict_items (mixKind X.prog X.w) d hs0, ⟨vs, hdo⟩, ?_⟩)
  refine Calls.spliced_nil ?_
  refine PySem.W.kdx_call (knd := mixKind X.prog X.w) (kvs := vs) (ep := ep) (I1.ok.hd hc) ⟨_, Heap.get?_push_size _ rfl, rfl, rfl⟩ (hat.push _) (by omega) fun h' tk acc c as hk hS hl hG hacc => ?_
  obtain ⟨H', k1, k2, k3, k4, k5, k6, J⟩ := LiI.items_laid (tk := tk) I2 hz kv hk hS hl hG hacc
  exact ⟨.ref _, H', J, rfl, q H' _ as k1 k2 k3 k4 k5 k6⟩
def dVals : D → Option D
  | .dct kvs => some (.lst (kvs.map (·.2)))
  | _ => none
def dPairs : D → Option D
  | .dct kvs => some (.lst (kvs.map fun p => .tup [kD p.1, p.2]))
  | _ => none
def lookM (h : D → Option D) (f : Mo Pl) : Mo D := f >>= fun p => look p >>= fun d => Mo.lift (h d)
theorem dtAll_vals {K : PySem.W.Frag} {O : Ow} {H : Hp} : ∀ {kvs : List (Key × D)} {es : List (Key × V)}, DtKv K O H kvs es → DtAll K O H (kvs.map (·.2)) (es.map (·.2))
  | [], _, q => by unfold DtKv at q; subst q; show DtAll K O H [] []; unfold DtAll; rfl
  | (j, y) :: kvs, es, q => by
    unfold DtKv at q
    obtain ⟨x, r, rfl, h1, h2⟩ := q
    show DtAll K O H (y :: kvs.map (·.2)) (x :: r.map (·.2))
    unfold DtAll
    exact ⟨_, _, rfl, h1, dtAll_vals h2⟩
theorem sf_listVals (cn : Cn X W k) (he : PE X e (tP X.K W f)) (hm : X.mg "list" = none) (hg : Gl X "list" := by rfl) (hbase : attributeBase e "values" X.env (eval e X.env) = eval e X.env := by rfl) (hline : (apos.endLine == cpos.line) = true := by rfl)
    (hs : starEach [.Call (.Attribute e "values" apos) [] [] cpos] X.env = (false, eval (.Call (.Attribute e "values" apos) [] [] cpos) X.env) :: starEach [] X.env := by rfl) :
    PE X (.Call (.Name "list" p) [.Call (.Attribute e "values" apos) [] [] cpos] [] pos) (tF X.K W (lookM dVals f)) := peI (pe_listVals cn.cm he hm hg (hbase := hbase) (hline := hline) (hs := hs)) fun σ H Q q => by
  obtain ⟨φ, O, ρ, fm, q⟩ := q
  refine tX_mono (fin_bind (rel := rP X.K) fm q) fun v H1 ⟨O1, ρ1, pl, f1, s1, r1, q1⟩ => ?_
  obtain ⟨d, ld, q1⟩ := fin_look f1 (rP_ok r1) q1
  obtain ⟨r, er, q1⟩ := fin_lift q1
  cases d with
  | dct kvs =>
    cases er
    obtain ⟨a, es, rfl, ra, qk⟩ := lk_dct ld
    exact ⟨a, es, rfl, ra, fun q hq => q1 _ (plus O1 q) _ (f1.new hq) (stp_new hq) ⟨q, rfl, .inr rfl, f1.h0 hq, f1.noslot hq, f1.pr0 hq, _, upd_same, (dtAll_vals qk).step (stp_new hq)⟩⟩
  | _ => cases er
theorem sf_listItems (cn : Cn X W k) (he : PE X e (tP X.K W f)) (hm : X.mg "list" = none) (hg : Gl X "list" := by rfl) (hbase : attributeBase e "items" X.env (eval e X.env) = eval e X.env := by rfl) (hline : (apos.endLine == cpos.line) = true := by rfl)
    (hs : starEach [.Call (.Attribute e "items" apos) [] [] cpos] X.env = (false, eval (.Call (.Attribute e "items" apos) [] [] cpos) X.env) :: starEach [] X.env := by rfl) :
    PE X (.Call (.Name "list" p) [.Call (.Attribute e "items" apos) [] [] cpos] [] pos) (tF X.K W (lookM dPairs f)) := peI (pe_listItemsR cn.cm he hm hg (hbase := hbase) (hline := hline) (hs := hs)) fun σ H Q q => by
  obtain ⟨φ, O, ρ, fm, q⟩ := q
  refine tX_mono (fin_bind (rel := rP X.K) fm q) fun v H1 ⟨O1, ρ1, pl, f1, s1, r1, q1⟩ => ?_
  obtain ⟨d, ld, q1⟩ := fin_look f1 (rP_ok r1) q1
  obtain ⟨r, er, q1⟩ := fin_lift q1
  cases d with
  | dct kvs =>
    cases er
    obtain ⟨a, es, rfl, ra, qk⟩ := lk_dct ld
    refine ⟨a, es, rfl, ra, fun H' q ts ex hq hts hqn hl hp => ?_⟩
    have st : Stp O1 H1 (plus O1 q) H' := ⟨fun b o _ e => ex b o e, fun b z => z.elim .inl fun z => .inr (z ▸ hq)⟩
    have nO : ∀ b, H1 b = none → ¬ O1 b := fun b hb z => by
      obtain ⟨o, e⟩ := f1.here b z
      rw [hb] at e; cases e
    have da : ∀ {ts : List Addr} {es : List (Key × V)} {kvs : List (Key × D)}, (∀ t ∈ ts, H1 t = none) → q ∉ ts → Paired (fun (t : Addr) (q : Key × V) => H' t = some (.tup [kV q.1, q.2])) ts es → DtKv X.K O1 H1 kvs es → DtAll X.K (plus O1 q) H' (kvs.map fun p => .tup [kD p.1, p.2]) (ts.map V.ref) := by
      intro ts es kvs h1 h2 hp
      induction hp generalizing kvs with
      | nil =>
        intro qk
        cases kvs with
        | nil => show DtAll X.K _ H' [] []; unfold DtAll; rfl
        | cons p kvs => obtain ⟨j, y⟩ := p; unfold DtKv at qk; obtain ⟨_, _, z, _⟩ := qk; cases z
      | @cons t pe ts' es' ht _ ih =>
        intro qk
        cases kvs with
        | nil => unfold DtKv at qk; cases qk
        | cons p kvs =>
          obtain ⟨j, y⟩ := p
          unfold DtKv at qk
          obtain ⟨x, r, z, g1, g2⟩ := qk
          cases z
          show DtAll X.K _ H' (.tup [kD j, y] :: _) (.ref t :: ts'.map V.ref)
          unfold DtAll
          refine ⟨_, _, rfl, ?_, ih (fun t ht => h1 t (List.mem_cons_of_mem _ ht)) (fun z => h2 (List.mem_cons_of_mem _ z)) g2⟩
          unfold Dt
          refine ⟨t, _, rfl, .inl ⟨fun z => ?_, ht⟩, ?_⟩
          · rcases z with z | z
            · exact nO t (h1 t List.mem_cons_self) z
            · exact h2 (z ▸ List.mem_cons_self)
          · unfold DtAll
            refine ⟨_, _, rfl, dt_key, ?_⟩
            unfold DtAll
            exact ⟨_, _, rfl, g1.step st, by unfold DtAll; rfl⟩
    have f2 : Fm X.K φ (plus O1 q) ρ1 σ H' := f1.call0 (fun b o e => ex b o e) st (fun a z => .inl z) fun a z => by
      rcases z with z | z
      · obtain ⟨o, e⟩ := f1.here a z; exact ⟨o, ex _ _ e⟩
      · subst z; exact ⟨_, hl⟩
    exact q1 _ (plus O1 q) _ f2 st ⟨q, rfl, .inr rfl, f1.h0 hq, f1.noslot hq, f1.pr0 hq, _, hl, da hts hqn hp qk⟩
  | _ => cases er
end
end VS

namespace VS
variable {gf : Bool}
open PySem PySem.Spec PyProof.Rows L2
/-! ### for .. in zip(a list, a list) -/
def zipD (xs ys : List D) : List D := (xs.zip ys).map fun p => .tup [p.1, p.2]
def dZip : List D → Option (List D)
  | [.lst xs, .lst ys] => some (zipD xs ys)
  | _ => none
def zipM (g : Mo (List D)) : Mo (List D) := g >>= fun ds => Mo.lift (dZip ds)
theorem srv_zip {K : PySem.W.Frag} {O : Ow} {H : Hp} {ds es : List D} {a b : Addr} {xs ys : List V} (na : ¬ O a) (nb : ¬ O b) (ha : H a = some (.lst xs)) (hb : H b = some (.lst ys)) (qa : DtAll K O H ds xs) (qb : DtAll K O H es ys) : Srv K O H (zipD ds es) (Itz K a b) := fun O' H' s here i => by
  obtain ⟨na', ha'⟩ := s.keep na ha
  obtain ⟨nb', hb'⟩ := s.keep nb hb
  have qa' := DtAll.step s _ _ qa
  have qb' := DtAll.step s _ _ qb
  have one : ∀ {c : Addr} {us vs : List V}, H' c = some (.lst us) → SqL K H' c vs → vs = us ∨ True := fun _ _ => .inr trivial
  refine ⟨fun d e => ?_, fun e => ⟨xs, ys, SqL.of ha', SqL.of hb', ?_⟩⟩
  · unfold zipD at e
    rw [List.getElem?_map] at e
    cases ez : (ds.zip es)[i]? with
    | none => rw [ez] at e; cases e
    | some p =>
      rw [ez] at e
      cases e
      obtain ⟨e1, e2⟩ := List.getElem?_zip_eq_some.mp ez
      obtain ⟨v1, x1, d1⟩ := dtAll_get qa' e1
      obtain ⟨v2, x2, d2⟩ := dtAll_get qb' e2
      refine ⟨⟨xs, ys, v1, v2, SqL.of ha', SqL.of hb', x1, x2⟩, fun x H2 y => ?_⟩
      obtain ⟨T, y1, y2, rfl, hT, rfl, f1, f2⟩ := y
      have z1 := f1 xs (SqL.of ha'); rw [x1] at z1; cases z1
      have z2 := f2 ys (SqL.of hb'); rw [x2] at z2; cases z2
      have ext : Ext H' (upd H' T (.tup [v1, v2])) := Ext.new hT
      have nT : ¬ O' T := fun z => by obtain ⟨o, eo⟩ := here T z; rw [hT] at eo; cases eo
      refine ⟨ext, ?_⟩
      unfold Dt
      refine ⟨T, [v1, v2], rfl, .inl ⟨nT, upd_same⟩, ?_⟩
      unfold DtAll
      refine ⟨v1, [v2], rfl, d1.step ext.stp, ?_⟩
      unfold DtAll
      exact ⟨v2, [], rfl, d2.step ext.stp, by unfold DtAll; rfl⟩
  · unfold zipD at e
    rw [List.length_map, List.length_zip] at e
    rw [← dtAll_len qa, ← dtAll_len qb]
    omega
theorem si_zip {X : Cx} {W : WX} {e e2 : Expr} {p pos tpos : Pos} {elts : List Expr} {kk : Nat} {g : Mo (List D)} (hm : X.mg "zip" = none) (ha : PA X [e, e2] (tA X.K W g)) (hg : Gl X "zip" := by rfl) (hs : starEach [e, e2] X.env = (false, eval e X.env) :: starEach [e2] X.env := by rfl) (hpl : (backTo pos (starEach [e2] X.env)).any (·.1) = false := by rfl) :
    PI X (.Tuple elts kk tpos) (.Call (.Name "zip" p) [e, e2] [] pos) (tI X.K W (zipM g)) := piI (pi_zip hg hm ha hs hpl) fun σ H R q => by
  obtain ⟨φ, O, ρ, fm, q⟩ := q
  refine tX_mono (fin_bind (rel := rA X.K) fm q) fun vs H1 ⟨O1, ρ1, ds, f1, s1, r1, q1⟩ => ?_
  obtain ⟨l, el, q2⟩ := fin_lift q1
  unfold dZip at el
  split at el
  · rename_i xs ys
    cases el
    have r2 : DtAll X.K O1 H1 [.lst xs, .lst ys] vs := r1
    unfold DtAll at r2
    obtain ⟨v, r, rfl, dv, r2⟩ := r2
    unfold DtAll at r2
    obtain ⟨u, r', rfl, du, r2⟩ := r2
    unfold DtAll at r2
    subst r2
    unfold Dt at dv du
    obtain ⟨a, us, rfl, na, ea, qa⟩ := dv
    obtain ⟨b, ws, rfl, nb, eb, qb⟩ := du
    exact ⟨a, b, us, ws, rfl, SqL.of ea, SqL.of eb, q2 (Itz X.K a b) O1 H1 f1 .refl (srv_zip na nb ea eb qa qb)⟩
  · cases el
section
variable {ρ : List Sl} {R : Ex → List Sl → Prop} {Qd : D → List Sl → Prop} {Qo : Out → List Sl → Prop} {Ql : List D → List Sl → Prop}
@[simp] theorem wp_itemsK {f : Mo D} : wp (itemsK f) ρ Ql R = wp f ρ (fun d ρ1 => wp (Mo.lift (dItemsK d)) ρ1 Ql R) R := by unfold itemsK; simp
@[simp] theorem wp_zipM {g : Mo (List D)} : wp (zipM g) ρ Ql R = wp g ρ (fun ds ρ1 => wp (Mo.lift (dZip ds)) ρ1 Ql R) R := by unfold zipM; simp
end
end VS

namespace VS
variable {gf : Bool}
open PySem PySem.Spec PyProof.Rows L2
/-! ### texts asked: isascii, isalpha, islower -/
def dTx0 (f : Str → Bool) : D → Option D
  | .str a => some (.bl (f a))
  | _ => none
def tx0M (f : Str → Bool) (g : Mo D) : Mo D := g >>= fun d => Mo.lift (dTx0 f d)
section
variable {X : Cx} {W : WX} {o : Expr} {g : Mo D} {apos pos : Pos}
theorem txt_end {f : Str → Bool} {σ : L2.St} {H : Hp} {Q : V → Hp → Prop} (q : tE X.K W (tx0M f g) σ H Q) : tE X.K W g σ H fun x H1 => ∃ a, x = .str a ∧ Q (.bl (f a)) H1 := by
  obtain ⟨φ, O, ρ, fm, q⟩ := q
  refine tX_mono (fin_bind (rel := rD X.K) fm q) fun x H1 ⟨O1, ρ1, d, f1, s1, r1, q1⟩ => ?_
  cases d with
  | str a =>
    have ex : x = .str a := by unfold rD Dt at r1; exact r1
    exact ⟨a, ex, q1 _ O1 H1 f1 .refl dt_bl⟩
  | _ => exact q1.elim
theorem se_isascii (ho : PE X o (tE X.K W g)) (hbase : attributeBase o "isascii" X.env (eval o X.env) = eval o X.env := by rfl) (hline : (apos.endLine == pos.line) = true := by rfl) :
    PE X (.Call (.Attribute o "isascii" apos) [] [] pos) (tE X.K W (tx0M Txt.isascii g)) := peI (pe_m0 F.slot_str_isascii F.type_str_isascii mt_isascii ho hbase hline) fun σ H Q q =>
  tX_mono (txt_end q) fun x H1 ⟨a, e, q⟩ => ⟨⟨a, e⟩, a, e, rfl, trivial, q⟩
theorem se_isalpha (ho : PE X o (tE X.K W g)) (hbase : attributeBase o "isalpha" X.env (eval o X.env) = eval o X.env := by rfl) (hline : (apos.endLine == pos.line) = true := by rfl) :
    PE X (.Call (.Attribute o "isalpha" apos) [] [] pos) (tE X.K W (tx0M Txt.isalpha g)) := peI (pe_m0 F.slot_str_isalpha F.type_str_isalpha mt_isalpha ho hbase hline) fun σ H Q q =>
  tX_mono (txt_end q) fun x H1 ⟨a, e, q⟩ => ⟨⟨a, e⟩, a, e, rfl, trivial, q⟩
theorem se_islower (ho : PE X o (tE X.K W g)) (hbase : attributeBase o "islower" X.env (eval o X.env) = eval o X.env := by rfl) (hline : (apos.endLine == pos.line) = true := by rfl) :
    PE X (.Call (.Attribute o "islower" apos) [] [] pos) (tE X.K W (tx0M Txt.islower g)) := peI (pe_m0 F.slot_str_islower F.type_str_islower mt_islower ho hbase hline) fun σ H Q q =>
  tX_mono (txt_end q) fun x H1 ⟨a, e, q⟩ => ⟨⟨a, e⟩, a, e, rfl, trivial, q⟩
end
section
variable {f : Str → Bool} {g : Mo D} {ρ : List Sl} {Qd : D → List Sl → Prop} {R : Ex → List Sl → Prop}
@[simp] theorem wp_tx0M : wp (tx0M f g) ρ Qd R = wp g ρ (fun d ρ1 => wp (Mo.lift (dTx0 f d)) ρ1 Qd R) R := by
  unfold tx0M; simp
@[simp] theorem dTx0_str {a : Str} : dTx0 f (.str a) = some (.bl (f a)) := rfl
end
/-! ### a sign below 128 -/
def Low (c : Nat) : Bool := decide (97 ≤ c) && decide (c ≤ 122)
theorem low_ascii : ∀ c : Fin 128, (Unicode.isAlpha c.val && !(Unicode.isUpper c.val || Unicode.isTitle c.val)) = Low c.val ∧ (Low c.val = true → Unicode.isLower c.val = true) := by decide +kernel
theorem low_txt (a : Str) : (Txt.isascii a && (Txt.isalpha a && Txt.islower a)) = (decide (0 < a.cps.toList.length) && a.cps.toList.all Low) := by
  unfold Txt.isascii Txt.isalpha Txt.islower
  have hl : a.length = a.cps.toList.length := by unfold Str.length; simp
  rw [hl]
  simp only [← Array.all_toList, ← Array.any_toList]
  generalize a.cps.toList = l
  by_cases h : l.all (fun c => decide (c < 128)) = true
  · have h0 : ∀ c ∈ l, (Unicode.isAlpha c && !(Unicode.isUpper c || Unicode.isTitle c)) = Low c ∧ (Low c = true → Unicode.isLower c = true) := fun c hc => by
      have := List.all_eq_true.mp h c hc
      exact low_ascii ⟨c, by simpa using this⟩
    rw [h]
    cases l with
    | nil => rfl
    | cons x xs =>
      by_cases hL : (x :: xs).all Low = true
      · have hb : ∀ c ∈ (x :: xs), Unicode.isAlpha c = true ∧ (Unicode.isUpper c || Unicode.isTitle c) = false ∧ Unicode.isLower c = true := fun c hc => by
          obtain ⟨h1, h2⟩ := h0 c hc
          have hlc := List.all_eq_true.mp hL c hc
          rw [hlc, Bool.and_eq_true, Bool.not_eq_true'] at h1
          exact ⟨h1.1, h1.2, h2 hlc⟩
        have e1 : (x :: xs).all Unicode.isAlpha = true := List.all_eq_true.mpr fun c hc => (hb c hc).1
        have e2 : (x :: xs).any Unicode.isLower = true := List.any_eq_true.mpr ⟨x, List.mem_cons_self, (hb x List.mem_cons_self).2.2⟩
        have e3 : (x :: xs).any (fun c => Unicode.isUpper c || Unicode.isTitle c) = false := List.any_eq_false.mpr fun c hc => by rw [(hb c hc).2.1]; exact Bool.false_ne_true
        rw [e1, e2, e3, hL]
        simp
      · have e0 : (x :: xs).all Low = false := by simpa using hL
        rw [e0, Bool.and_false]
        by_cases e1 : (x :: xs).all Unicode.isAlpha = true
        · by_cases e3 : (x :: xs).any (fun c => Unicode.isUpper c || Unicode.isTitle c) = true
          · rw [e3]; simp
          · exfalso
            apply hL
            refine List.all_eq_true.mpr fun c hc => ?_
            have e3' : (x :: xs).any (fun c => Unicode.isUpper c || Unicode.isTitle c) = false := by simpa using e3
            have n := List.any_eq_false.mp e3' c hc
            have := (h0 c hc).1
            rw [List.all_eq_true.mp e1 c hc] at this
            rw [← this]
            simpa using n
        · have e1' : (x :: xs).all Unicode.isAlpha = false := by simpa using e1
          rw [e1']; simp
  · have h' : l.all (fun c => decide (c < 128)) = false := by simpa using h
    rw [h', Bool.false_and]
    symm
    rw [Bool.and_eq_false_iff]
    right
    obtain ⟨c, hc, hn⟩ := List.all_eq_false.mp h'
    refine List.all_eq_false.mpr ⟨c, hc, ?_⟩
    have : ¬ c < 128 := by simpa using hn
    unfold Low
    simp
    omega
end VS

namespace VS
open PySem PySem.Spec PyProof.Rows L2
def topS (i : Nat) : Stmt := PySem.Challenge.pw_showncalls_k02_logs_by_their_form.main.body.getD i (.Pass ⟨0, 0, 0, 0⟩)
/-! ### _law_urn -/
abbrev s__law_urn : Stmt := topS 14
abbrev N__law_urn : List Str := ["script", "at", "cell", "great", "seed"]
theorem sc__law_urn : FnScope N__law_urn ["script", "at"] (defScope s__law_urn) := ⟨rfl, rfl, rfl, by decide +kernel, rfl, by decide +kernel, by decide +kernel⟩
def M__law_urn : Mo Out :=
  (seqM (setM 2 (ifV (testM (opM dLt (slotM 1) (immM (bltM dLen (consP (slotM 0) (pure [])))))) (opM dIx (slotM 0) (slotM 1)) (opM dAdd (immM (opM dMul (immM (pure (.int 83))) (slotM 1))) (immM (pure (.int 37))))))
  (seqM (setM 3 (opM dMod (immM (bltM dInt (consP (immM (bltM dAbs (consP (slotM 2) (pure [])))) (pure [])))) (immM (opM dPow (immM (opM dPow (immM (pure (.int 10))) (immM (pure (.int 60))))) (immM (pure (.int 9)))))))
  (seqM (setM 4 (opM dMod (immM (bltM dInt (consP (immM (opM dAdd (immM (opM dAdd (immM (opM dAdd (immM (opM dMul (slotM 3) (immM (pure (.int 104651))))) (immM (opM dMul (immM (pure (.int 15331))) (slotM 1))))) (immM (opM dMul (immM (pure (.int 43))) (immM (bltM dInt (consP (immM (opM dLt (slotM 2) (immM (pure (.int 0))))) (pure [])))))))) (immM (pure (.int 19))))) (pure [])))) (immM (pure (.int 2305843009213693921)))))
  (retF (lstM (consD (bltM dMax (consP (immM (pure (.int 0))) (consP (immM (opM dSub (slotM 3) (immM (opM dPow (immM (pure (.int 10))) (immM (pure (.int 17))))))) (pure [])))) (consD (slotM 4 >>= leak) (consD (pure (.int 0)) (pure [])))))))))
theorem b__law_urn {P : Program} {w : World} {K : PySem.W.Frag} {mg : Str → Option Value} {base : Heap} (g_len : mg "len" = none) (g_int : mg "int" = none) (g_abs : mg "abs" = none) (g_max : mg "max" = none) (f : Addr) (cdv : Value) (A : Around) (out : List Env) (s : Shared) (G : Hp) (E : XK) (cn : Cn (XO P w K mg base N__law_urn "_law_urn" s__law_urn f cdv A out s G E) (fun c d _ H => E c d H) 0) :
    PSs (XO P w K mg base N__law_urn "_law_urn" s__law_urn f cdv A out s G E) (defBody s__law_urn) (tS K (fun c d _ H => E c d H) (M__law_urn)) :=
  have nd : (N__law_urn).Nodup := sc__law_urn.nd
  (sss_cons (ss_set 2 nd (se_ifx (st_cmp op_ltA sem_lt (sp_var 1) (sp_e (se_blt call_lenA sem_len g_len (spa_cons (sp_var 0) spa_nil))) (nomark _)) (se_ix (sp_var 0) (sp_var 1)) (se_op op_addA sem_add (sp_e (se_op op_mulA sem_mul (sp_e se_int) (sp_var 1))) (sp_e se_int))))
    (sss_cons (ss_set 3 nd (se_op op_mod sem_mod (sp_e (se_bty call_int1 sem_int g_int (spa_cons (sp_e (se_blt call_abs sem_abs g_abs (spa_cons (sp_var 2) spa_nil))) spa_nil))) (sp_e (se_op op_powW sem_pow (sp_e (se_op op_powW sem_pow (sp_e se_int) (sp_e se_int))) (sp_e se_int)))))
    (sss_cons (ss_set 4 nd (se_op op_mod sem_mod (sp_e (se_bty call_int1 sem_int g_int (spa_cons (sp_e (se_op op_addA sem_add (sp_e (se_op op_addA sem_add (sp_e (se_op op_addA sem_add (sp_e (se_op op_mulA sem_mul (sp_var 3) (sp_e se_int))) (sp_e (se_op op_mulA sem_mul (sp_e se_int) (sp_var 1))))) (sp_e (se_op op_mulA sem_mul (sp_e se_int) (sp_e (se_bty call_int1 sem_int g_int (spa_cons (sp_e (se_cmp op_ltA sem_lt (sp_var 2) (sp_e se_int) (nomark _))) spa_nil))))))) (sp_e se_int))) spa_nil))) (sp_e se_int)))
    (sss_one (ss_retF (sf_lst (sda_cons (se_blt (call_max2 cn.cm) sem_max g_max (spa_cons (sp_e se_int) (spa_cons (sp_e (se_op op_sub sem_sub (sp_var 3) (sp_e (se_op op_powW sem_pow (sp_e se_int) (sp_e se_int))))) spa_nil))) (sda_cons (se_leak (sp_var 4)) (sda_cons se_int sda_nil)))))))))
/-! ### _law_take -/
abbrev s__law_take : Stmt := topS 15
abbrev N__law_take : List Str := ["urn", "total", "one", "two", "three", "found"]
theorem sc__law_take : FnScope N__law_take ["urn", "total"] (defScope s__law_take) := ⟨rfl, rfl, rfl, by decide +kernel, rfl, by decide +kernel, by decide +kernel⟩
def M__law_take : Mo Out :=
  (seqM (ifM (testM (opM dGt (immM (opM dIx (slotM 0) (immM (pure (.int 0))))) (immM (pure (.int 0))))) (seqM (setM 5 (opM dMod (immM (bltM dInt (consP (immM (opM dIx (slotM 0) (immM (pure (.int 0))))) (pure [])))) (slotM 1)))
  (seqM (putIxM 0 (pure (.int 0)) (opM dDiv (immM (opM dIx (slotM 0) (immM (pure (.int 0))))) (slotM 1)))
  (retM (slotM 5 >>= leak)))) (pure .nx))
  (seqM (putIxM 0 (pure (.int 2)) (opM dAdd (immM (opM dIx (slotM 0) (immM (pure (.int 2))))) (immM (pure (.int 1)))))
  (seqM (setM 2 (opM dMod (immM (bltM dInt (consP (immM (opM dAdd (immM (opM dIx (slotM 0) (immM (pure (.int 1))))) (immM (opM dMul (immM (pure (.int 1299709))) (immM (opM dIx (slotM 0) (immM (pure (.int 2))))))))) (pure [])))) (immM (pure (.int 2305843009213693951)))))
  (seqM (setM 3 (opM dMod (immM (bltM dInt (consP (immM (opM dAdd (immM (opM dMul (slotM 2) (slotM 2))) (immM (opM dMul (immM (pure (.int 7919))) (immM (opM dIx (slotM 0) (immM (pure (.int 2))))))))) (pure [])))) (immM (pure (.int 1000000000039)))))
  (seqM (setM 4 (opM dMod (immM (bltM dInt (consP (immM (opM dAdd (immM (opM dMul (slotM 3) (slotM 3))) (slotM 2))) (pure [])))) (immM (pure (.int 998244353)))))
  (retM (opM dMod (immM (bltM dInt (consP (immM (opM dDiv (slotM 4) (immM (pure (.int 61))))) (pure [])))) (slotM 1))))))))
theorem b__law_take {P : Program} {w : World} {K : PySem.W.Frag} {mg : Str → Option Value} {base : Heap} (g_int : mg "int" = none) (f : Addr) (cdv : Value) (A : Around) (out : List Env) (s : Shared) (G : Hp) (E : XK) (cn : Cn (XO P w K mg base N__law_take "_law_take" s__law_take f cdv A out s G E) (fun c d _ H => E c d H) 0) :
    PSs (XO P w K mg base N__law_take "_law_take" s__law_take f cdv A out s G E) (defBody s__law_take) (tS K (fun c d _ H => E c d H) (M__law_take)) :=
  have nd : (N__law_take).Nodup := sc__law_take.nd
  (sss_cons (ss_if (st_cmp op_gtA sem_gt (sp_e (se_ix (sp_var 0) (sp_e se_int))) (sp_e se_int) (nomark _)) (sss_cons (ss_set 5 nd (se_op op_mod sem_mod (sp_e (se_bty call_int1 sem_int g_int (spa_cons (sp_e (se_ix (sp_var 0) (sp_e se_int))) spa_nil))) (sp_var 1)))
    (sss_cons (ss_setIx 0 (se_op op_fdivW sem_div (sp_e (se_ix (sp_var 0) (sp_e se_int))) (sp_var 1)) se_int)
    (sss_one (ss_ret (se_leak (sp_var 5)))))) sss_nil)
    (sss_cons (ss_setIx 0 (se_op op_addA sem_add (sp_e (se_ix (sp_var 0) (sp_e se_int))) (sp_e se_int)) se_int)
    (sss_cons (ss_set 2 nd (se_op op_mod sem_mod (sp_e (se_bty call_int1 sem_int g_int (spa_cons (sp_e (se_op op_addA sem_add (sp_e (se_ix (sp_var 0) (sp_e se_int))) (sp_e (se_op op_mulA sem_mul (sp_e se_int) (sp_e (se_ix (sp_var 0) (sp_e se_int))))))) spa_nil))) (sp_e se_int)))
    (sss_cons (ss_set 3 nd (se_op op_mod sem_mod (sp_e (se_bty call_int1 sem_int g_int (spa_cons (sp_e (se_op op_addA sem_add (sp_e (se_op op_mulA sem_mul (sp_var 2) (sp_var 2))) (sp_e (se_op op_mulA sem_mul (sp_e se_int) (sp_e (se_ix (sp_var 0) (sp_e se_int))))))) spa_nil))) (sp_e se_int)))
    (sss_cons (ss_set 4 nd (se_op op_mod sem_mod (sp_e (se_bty call_int1 sem_int g_int (spa_cons (sp_e (se_op op_addA sem_add (sp_e (se_op op_mulA sem_mul (sp_var 3) (sp_var 3))) (sp_var 2))) spa_nil))) (sp_e se_int)))
    (sss_one (ss_ret (se_op op_mod sem_mod (sp_e (se_bty call_int1 sem_int g_int (spa_cons (sp_e (se_op op_fdivW sem_div (sp_var 4) (sp_e se_int))) spa_nil))) (sp_var 1)))))))))
/-! ### _law_name -/
abbrev s__law_name : Stmt := topS 18
abbrev N__law_name : List Str := ["urn", "letters", "turn"]
theorem sc__law_name : FnScope N__law_name ["urn"] (defScope s__law_name) := ⟨rfl, rfl, rfl, by decide +kernel, rfl, by decide +kernel, by decide +kernel⟩
def M__law_name (F__law_take : FF) : Mo Out :=
  (seqM (setM 1 (pure (.str "abcdefghijklmnopqrstuvwxyz")))
  (retM (joinM (pure (.str "")) (immM (lcM [2] (rngM1 (consD (opM dAdd (immM (pure (.int 1))) (immM (callIo 0 F__law_take (consD (pure (.int 8)) (pure []))))) (pure []))) (tgN 2) noT (opM dIx (slotM 1) (immM (callIo 0 F__law_take (consD (pure (.int 26)) (pure []))))))))))
theorem b__law_name {P : Program} {w : World} {K : PySem.W.Frag} {mg : Str → Option Value} {base : Heap} {F__law_take : FF} {f__law_take : Addr} {d__law_take : FuncData} (D__law_take : Df P w K mg base 1 "_law_take" f__law_take d__law_take ["urn", "total"] false F__law_take) (r__law_take : Ar F__law_take true 1) (g_range : mg "range" = none) (f : Addr) (cdv : Value) (A : Around) (out : List Env) (s : Shared) (G : Hp) (E : XK) (cn : Cn (XO P w K mg base N__law_name "_law_name" s__law_name f cdv A out s G E) (fun c d _ H => E c d H) 1) :
    PSs (XO P w K mg base N__law_name "_law_name" s__law_name f cdv A out s G E) (defBody s__law_name) (tS K (fun c d _ H => E c d H) (M__law_name F__law_take)) :=
  have nd : (N__law_name).Nodup := sc__law_name.nd
  (sss_cons (ss_set 1 nd se_str)
    (sss_one (ss_ret (se_join se_str (sp_f (sf_lc cn nd (si_range1 g_range (sda_cons (se_op op_addA sem_add (sp_e se_int) (sp_e (se_defU 0 D__law_take r__law_take cn (sva (ha := (sda_cons se_int sda_nil)))))) sda_nil)) (blkOk_by (own := [("turn", 2)]) (N := N__law_name) (sc := defScope s__law_name) (by decide +kernel)) (fun _ _ _ _ _ => (pg_name (i := 2) nd rfl (Or.inl rfl))) (sg_n 2) (by decide) (fun _ _ _ _ _ cn => spts_nil) (fun _ _ _ _ _ cn => (se_ix (sp_var 1) (sp_e (se_defU 0 D__law_take r__law_take cn (sva (ha := (sda_cons se_int sda_nil)))))))))))))
/-! ### _law_names -/
abbrev s__law_names : Stmt := topS 19
abbrev N__law_names : List Str := ["urn", "many", "found", "turn", "name", "spare", "one"]
theorem sc__law_names : FnScope N__law_names ["urn", "many"] (defScope s__law_names) := ⟨rfl, rfl, rfl, by decide +kernel, rfl, by decide +kernel, by decide +kernel⟩
def M__law_names (F__law_name : FF) : Mo Out :=
  (seqM (setF 2 (lstM (pure [])))
  (seqM (forM (rngM1 (consD (slotM 1 >>= leak) (pure []))) (tgN 3) (seqM (setM 4 (callIo 0 F__law_name (pure [])))
  (seqM (setF 5 (lcM [6] (itemsM (lstM (consD (pure (.str "qa")) (consD (pure (.str "qb")) (consD (pure (.str "qc")) (consD (pure (.str "qd")) (consD (pure (.str "qe")) (consD (pure (.str "qf")) (consD (pure (.str "qg")) (pure [])))))))))) (tgN 6) (testM (opM dNotIn (slotM 6) (slotM 2))) (slotM 6 >>= leak)))
  (dropM (appM 2 (ifV (testM (opM dNotIn (slotM 4) (slotM 2))) (slotM 4 >>= leak) (opM dIx (slotM 5) (immM (pure (.int 0))))))))))
  (retM (slotM 2 >>= leak))))
theorem b__law_names {P : Program} {w : World} {K : PySem.W.Frag} {mg : Str → Option Value} {base : Heap} {F__law_name : FF} {f__law_name : Addr} {d__law_name : FuncData} (D__law_name : Df P w K mg base 2 "_law_name" f__law_name d__law_name ["urn"] false F__law_name) (r__law_name : Ar F__law_name true 0) (g_range : mg "range" = none) (f : Addr) (cdv : Value) (A : Around) (out : List Env) (s : Shared) (G : Hp) (E : XK) (cn : Cn (XO P w K mg base N__law_names "_law_names" s__law_names f cdv A out s G E) (fun c d _ H => E c d H) 2) :
    PSs (XO P w K mg base N__law_names "_law_names" s__law_names f cdv A out s G E) (defBody s__law_names) (tS K (fun c d _ H => E c d H) (M__law_names F__law_name)) :=
  have nd : (N__law_names).Nodup := sc__law_names.nd
  (sss_cons (ss_setF 2 nd (sf_lst sda_nil))
    (sss_cons (ss_for cn (si_range1 g_range (sda_cons (se_leak (sp_var 1)) sda_nil)) (pg_name (i := 3) nd rfl (Or.inl rfl)) (sg_n 3) (sss_cons (ss_set 4 nd (se_defU 0 D__law_name r__law_name cn (sva (ha := sda_nil))))
    (sss_cons (ss_setLc 5 cn nd rfl rfl (sw_true rfl rfl rfl (by decide +kernel)) (si_seq (se_f (sf_lst (sda_cons se_str (sda_cons se_str (sda_cons se_str (sda_cons se_str (sda_cons se_str (sda_cons se_str (sda_cons se_str sda_nil)))))))))) (blkOk_by (own := [("one", 6)]) (N := N__law_names) (sc := defScope s__law_names) (by decide +kernel)) (fun _ _ _ _ _ => (pg_name (i := 6) nd rfl (Or.inl rfl))) (sg_n 6) (by decide) (fun _ _ _ _ _ cn => (spts_one (st_cmp (op_notInA cn) sem_notIn (sp_var 6) (sp_var 2) (by with_unfolding_all rfl)))) (fun _ _ _ _ _ cn => (se_leak (sp_var 6))))
    (sss_one (ss_expr (se_append 2 (se_ifx (st_cmp (op_notInA cn) sem_notIn (sp_var 4) (sp_var 2) (by with_unfolding_all rfl)) (se_leak (sp_var 4)) (se_ix (sp_var 5) (sp_e se_int)))))))))
    (sss_one (ss_ret (se_leak (sp_var 2))))))
/-! ### _law_one -/
abbrev s__law_one : Stmt := topS 16
abbrev N__law_one : List Str := ["urn", "items"]
theorem sc__law_one : FnScope N__law_one ["urn", "items"] (defScope s__law_one) := ⟨rfl, rfl, rfl, by decide +kernel, rfl, by decide +kernel, by decide +kernel⟩
def M__law_one (F__law_take : FF) : Mo Out :=
  (retM (opM dIx (slotM 1) (immM (callIo 0 F__law_take (consD (bltM dLen (consP (slotM 1) (pure []))) (pure []))))))
theorem b__law_one {P : Program} {w : World} {K : PySem.W.Frag} {mg : Str → Option Value} {base : Heap} {F__law_take : FF} {f__law_take : Addr} {d__law_take : FuncData} (D__law_take : Df P w K mg base 1 "_law_take" f__law_take d__law_take ["urn", "total"] false F__law_take) (r__law_take : Ar F__law_take true 1) (g_len : mg "len" = none) (f : Addr) (cdv : Value) (A : Around) (out : List Env) (s : Shared) (G : Hp) (E : XK) (cn : Cn (XO P w K mg base N__law_one "_law_one" s__law_one f cdv A out s G E) (fun c d _ H => E c d H) 1) :
    PSs (XO P w K mg base N__law_one "_law_one" s__law_one f cdv A out s G E) (defBody s__law_one) (tS K (fun c d _ H => E c d H) (M__law_one F__law_take)) :=
  have nd : (N__law_one).Nodup := sc__law_one.nd
  (sss_one (ss_ret (se_ix (sp_var 1) (sp_e (se_defU 0 D__law_take r__law_take cn (sva (ha := (sda_cons (se_blt call_lenA sem_len g_len (spa_cons (sp_var 1) spa_nil)) sda_nil))))))))
/-! ### _law_log -/
abbrev s__law_log : Stmt := topS 21
abbrev N__law_log : List Str := ["urn", "names", "words", "found", "opened", "turn", "way", "word", "number"]
theorem sc__law_log : FnScope N__law_log ["urn"] (defScope s__law_log) := ⟨rfl, rfl, rfl, by decide +kernel, rfl, by decide +kernel, by decide +kernel⟩
def M__law_log (F__law_names : FF) (F__law_take : FF) (F__law_one : FF) : Mo Out :=
  (seqM (putP 1 2 false false (callIo 0 F__law_names (consD (pure (.int 3)) (pure []))) (callIo 0 F__law_names (consD (pure (.int 2)) (pure []))))
  (seqM (putP 3 4 true true (lstM (consD (tupM (consD (pure (.str "enter")) (consD (opM dIx (slotM 1) (immM (pure (.int 0)))) (pure [])))) (pure []))) (lstM (consD (opM dIx (slotM 1) (immM (pure (.int 0)))) (pure []))))
  (seqM (forM (rngM1 (consD (callIo 0 F__law_take (consD (pure (.int 24)) (pure []))) (pure []))) (tgN 5) (seqM (setM 6 (callIo 0 F__law_take (consD (pure (.int 6)) (pure []))))
  (ifM (andT (testM (opM dNe (slotM 4) (immM (lstM (pure []))))) (testM (opM dLt (slotM 6) (immM (pure (.int 2)))))) (seqM (dropM (appM 4 (callIo 0 F__law_one (consD (slotM 1 >>= leak) (pure [])))))
  (dropM (appM 3 (tupM (consD (pure (.str "enter")) (consD (opM dIx (slotM 4) (immM (pure (.int (-1))))) (pure []))))))) (ifM (andT (testM (opM dNe (slotM 4) (immM (lstM (pure []))))) (andT (testM (opM dLt (slotM 6) (immM (pure (.int 4))))) (orT (testM (opM dGt (immM (bltM dLen (consP (slotM 4) (pure [])))) (immM (pure (.int 1))))) (testM (opM dEq (immM (callIo 0 F__law_take (consD (pure (.int 3)) (pure [])))) (immM (pure (.int 0)))))))) (dropM (appM 3 (tupM (consD (pure (.str "leave")) (consD (popM 4) (pure [])))))) (ifM (testM (opM dNe (slotM 4) (immM (lstM (pure []))))) (seqM (putP 7 8 false false (callIo 0 F__law_one (consD (slotM 2 >>= leak) (pure []))) (callIo 0 F__law_take (consD (pure (.int 4)) (pure []))))
  (dropM (appM 3 (callIo 0 F__law_one (consD (lstM (consD (tupM (consD (pure (.str "say")) (consD (slotM 7 >>= leak) (pure [])))) (consD (tupM (consD (pure (.str "say")) (consD (slotM 7 >>= leak) (consD (slotM 8 >>= leak) (pure []))))) (consD (tupM (consD (pure (.str "ask")) (consD (slotM 7 >>= leak) (consD (slotM 8 >>= leak) (pure []))))) (pure []))))) (pure [])))))) (pure .nx))))))
  (retM (bltM dTuple (consP (slotM 3) (pure [])))))))
theorem b__law_log {P : Program} {w : World} {K : PySem.W.Frag} {mg : Str → Option Value} {base : Heap} {F__law_names : FF} {F__law_take : FF} {F__law_one : FF} {f__law_names : Addr} {d__law_names : FuncData} {f__law_take : Addr} {d__law_take : FuncData} {f__law_one : Addr} {d__law_one : FuncData} (D__law_names : Df P w K mg base 3 "_law_names" f__law_names d__law_names ["urn", "many"] false F__law_names) (r__law_names : Ar F__law_names true 1) (D__law_take : Df P w K mg base 1 "_law_take" f__law_take d__law_take ["urn", "total"] false F__law_take) (r__law_take : Ar F__law_take true 1) (D__law_one : Df P w K mg base 2 "_law_one" f__law_one d__law_one ["urn", "items"] false F__law_one) (r__law_one : Ar F__law_one true 1) (g_range : mg "range" = none) (g_len : mg "len" = none) (g_tuple : mg "tuple" = none) (f : Addr) (cdv : Value) (A : Around) (out : List Env) (s : Shared) (G : Hp) (E : XK) (cn : Cn (XO P w K mg base N__law_log "_law_log" s__law_log f cdv A out s G E) (fun c d _ H => E c d H) 3) :
    PSs (XO P w K mg base N__law_log "_law_log" s__law_log f cdv A out s G E) (defBody s__law_log) (tS K (fun c d _ H => E c d H) (M__law_log F__law_names F__law_take F__law_one)) :=
  have nd : (N__law_log).Nodup := sc__law_log.nd
  (sss_cons (ss_par 1 2 false false cn nd (se_defU 0 D__law_names r__law_names cn (sva (ha := (sda_cons se_int sda_nil)))) (se_defU 0 D__law_names r__law_names cn (sva (ha := (sda_cons se_int sda_nil)))))
    (sss_cons (ss_par 3 4 true true cn nd (sf_lst (sda_cons (se_tup (sda_cons se_str (sda_cons (se_ix (sp_var 1) (sp_e se_int)) sda_nil))) sda_nil)) (sf_lst (sda_cons (se_ix (sp_var 1) (sp_e se_int)) sda_nil)))
    (sss_cons (ss_for cn (si_range1 g_range (sda_cons (se_defU 0 D__law_take r__law_take cn (sva (ha := (sda_cons se_int sda_nil)))) sda_nil)) (pg_name (i := 5) nd rfl (Or.inl rfl)) (sg_n 5) (sss_cons (ss_set 6 nd (se_defU 0 D__law_take r__law_take cn (sva (ha := (sda_cons se_int sda_nil)))))
    (sss_one (ss_if (st_w (sw_and (st_cmp (op_neC cn) sem_ne (sp_var 4) (sp_f (sf_lst sda_nil)) (nomark _)) (sw_and1 (st_cmp op_ltA sem_lt (sp_var 6) (sp_e se_int) (nomark _))))) (sss_cons (ss_expr (se_append 4 (se_defU 0 D__law_one r__law_one cn (sva (ha := (sda_cons (se_leak (sp_var 1)) sda_nil))))))
    (sss_one (ss_expr (se_append 3 (se_tup (sda_cons se_str (sda_cons (se_ix (sp_var 4) (sp_e se_negC)) sda_nil))))))) (sss_one (ss_if (st_w (sw_and (st_cmp (op_neC cn) sem_ne (sp_var 4) (sp_f (sf_lst sda_nil)) (nomark _)) (sw_and (st_cmp op_ltA sem_lt (sp_var 6) (sp_e se_int) (nomark _)) (sw_and1 (st_w (sw_or (st_cmp op_gtA sem_gt (sp_e (se_blt call_lenA sem_len g_len (spa_cons (sp_var 4) spa_nil))) (sp_e se_int) (nomark _)) (sw_or1 (st_cmp (op_eqC cn) sem_eq (sp_e (se_defU 0 D__law_take r__law_take cn (sva (ha := (sda_cons se_int sda_nil))))) (sp_e se_int) (nomark _))))))))) (sss_one (ss_expr (se_append 3 (se_tup (sda_cons se_str (sda_cons (se_pop 4) sda_nil)))))) (sss_one (ss_if (st_cmp (op_neC cn) sem_ne (sp_var 4) (sp_f (sf_lst sda_nil)) (nomark _)) (sss_cons (ss_par 7 8 false false cn nd (se_defU 0 D__law_one r__law_one cn (sva (ha := (sda_cons (se_leak (sp_var 2)) sda_nil)))) (se_defU 0 D__law_take r__law_take cn (sva (ha := (sda_cons se_int sda_nil)))))
    (sss_one (ss_expr (se_append 3 (se_defU 0 D__law_one r__law_one cn (sva (ha := (sda_cons (se_f (sf_lst (sda_cons (se_tup (sda_cons se_str (sda_cons (se_leak (sp_var 7)) sda_nil))) (sda_cons (se_tup (sda_cons se_str (sda_cons (se_leak (sp_var 7)) (sda_cons (se_leak (sp_var 8)) sda_nil)))) (sda_cons (se_tup (sda_cons se_str (sda_cons (se_leak (sp_var 7)) (sda_cons (se_leak (sp_var 8)) sda_nil)))) sda_nil))))) sda_nil)))))))) sss_nil))))))))
    (sss_one (ss_ret (se_bty call_tuple_of sem_tuple g_tuple (spa_cons (sp_var 3) spa_nil)))))))
/-! ### is_name -/
abbrev s_is_name : Stmt := topS 8
abbrev N_is_name : List Str := ["value"]
theorem sc_is_name : FnScope N_is_name ["value"] (defScope s_is_name) := ⟨rfl, rfl, rfl, by decide +kernel, rfl, by decide +kernel, by decide +kernel⟩
def M_is_name : Mo Out :=
  (seqM (ifM (orT (notT (testM (isiM [.str] (slotM 0)))) (notT (testM (chM dLe dLe (immM (pure (.int 1))) (immM (bltM dLen (consP (slotM 0) (pure [])))) (immM (pure (.int 8))))))) (retM (pure (.bl false))) (pure .nx))
  (retM (andV (tx0M Txt.isascii (slotM 0 >>= leak)) (andV (tx0M Txt.isalpha (slotM 0 >>= leak)) (tx0M Txt.islower (slotM 0 >>= leak))))))
theorem b_is_name {P : Program} {w : World} {K : PySem.W.Frag} {mg : Str → Option Value} {base : Heap} {t_MOST_LETTERS : Tok} (g_isinstance : mg "isinstance" = none) (g_str : mg "str" = none) (g_len : mg "len" = none) (i_MOST_LETTERS : mg "MOST_LETTERS" = some (.int 8 t_MOST_LETTERS)) (f : Addr) (cdv : Value) (A : Around) (out : List Env) (s : Shared) (G : Hp) (E : XK) (cn : Cn (XO P w K mg base N_is_name "is_name" s_is_name f cdv A out s G E) (fun c d _ H => E c d H) 0) :
    PSs (XO P w K mg base N_is_name "is_name" s_is_name f cdv A out s G E) (defBody s_is_name) (tS K (fun c d _ H => E c d H) (M_is_name)) :=
  have nd : (N_is_name).Nodup := sc_is_name.nd
  (sss_cons (ss_if (st_w (sw_or (st_not (st_val (se_isi .str (sp_var 0) g_isinstance g_str))) (sw_or1 (st_not (st_chain op_leA op_leA sem_le sem_le (sp_e se_int) (sp_e (se_blt call_lenA sem_len g_len (spa_cons (sp_var 0) spa_nil))) (sp_e (se_gint (i := 8) (by rfl) i_MOST_LETTERS))))))) (sss_one (ss_ret se_bl)) sss_nil)
    (sss_one (ss_ret (se_and (se_isascii (se_leak (sp_var 0))) (se_and (se_isalpha (se_leak (sp_var 0))) (se_one (se_islower (se_leak (sp_var 0)))))))))
/-! ### is_number -/
abbrev s_is_number : Stmt := topS 1
abbrev N_is_number : List Str := ["value", "size"]
theorem sc_is_number : FnScope N_is_number ["value", "size"] (defScope s_is_number) := ⟨rfl, rfl, rfl, by decide +kernel, rfl, by decide +kernel, by decide +kernel⟩
def M_is_number : Mo Out :=
  (retM (andV (isiM [.int] (slotM 0)) (andV (notV (testM (isiM [.bl] (slotM 0)))) (chM dLe dLt (immM (pure (.int 0))) (slotM 0) (slotM 1)))))
theorem b_is_number {P : Program} {w : World} {K : PySem.W.Frag} {mg : Str → Option Value} {base : Heap} (g_isinstance : mg "isinstance" = none) (g_int : mg "int" = none) (g_bool : mg "bool" = none) (f : Addr) (cdv : Value) (A : Around) (out : List Env) (s : Shared) (G : Hp) (E : XK) (cn : Cn (XO P w K mg base N_is_number "is_number" s_is_number f cdv A out s G E) (fun c d _ H => E c d H) 0) :
    PSs (XO P w K mg base N_is_number "is_number" s_is_number f cdv A out s G E) (defBody s_is_number) (tS K (fun c d _ H => E c d H) (M_is_number)) :=
  have nd : (N_is_number).Nodup := sc_is_number.nd
  (sss_one (ss_ret (se_and (se_isi .int (sp_var 0) g_isinstance g_int) (se_and (se_notB (se_isi .bl (sp_var 0) g_isinstance g_bool)) (se_one (se_chain op_leA op_ltA sem_le sem_lt (sp_e se_int) (sp_var 0) (sp_var 1)))))))
/-! ### is_line -/
abbrev s_is_line : Stmt := topS 9
abbrev N_is_line : List Str := ["value"]
theorem sc_is_line : FnScope N_is_line ["value"] (defScope s_is_line) := ⟨rfl, rfl, rfl, by decide +kernel, rfl, by decide +kernel, by decide +kernel⟩
def M_is_line (F_is_name : FF) (F_is_number : FF) : Mo Out :=
  (seqM (ifM (orT (notT (testM (isiM [.tup] (slotM 0)))) (orT (notT (testM (chM dLe dLe (immM (pure (.int 2))) (immM (bltM dLen (consP (slotM 0) (pure [])))) (immM (pure (.int 3)))))) (notT (testM (callM F_is_name (consD (opM dIx (slotM 0) (immM (pure (.int 1)))) (pure []))))))) (retM (pure (.bl false))) (pure .nx))
  (seqM (ifM (testM (opM dEq (immM (bltM dLen (consP (slotM 0) (pure [])))) (immM (pure (.int 2))))) (retM (opM dIn (immM (opM dIx (slotM 0) (immM (pure (.int 0))))) (immM (tupM (consD (pure (.str "enter")) (consD (pure (.str "leave")) (consD (pure (.str "say")) (pure [])))))))) (pure .nx))
  (retM (andV (opM dIn (immM (opM dIx (slotM 0) (immM (pure (.int 0))))) (immM (tupM (consD (pure (.str "ask")) (consD (pure (.str "say")) (pure [])))))) (callM F_is_number (consD (opM dIx (slotM 0) (immM (pure (.int 2)))) (consD (pure (.int 4)) (pure []))))))))
theorem b_is_line {P : Program} {w : World} {K : PySem.W.Frag} {mg : Str → Option Value} {base : Heap} {F_is_name : FF} {F_is_number : FF} {f_is_name : Addr} {d_is_name : FuncData} {f_is_number : Addr} {d_is_number : FuncData} {t_LARGEST_SIZE : Tok} (D_is_name : Df P w K mg base 1 "is_name" f_is_name d_is_name ["value"] false F_is_name) (r_is_name : Ar F_is_name false 1) (D_is_number : Df P w K mg base 1 "is_number" f_is_number d_is_number ["value", "size"] false F_is_number) (r_is_number : Ar F_is_number false 2) (g_isinstance : mg "isinstance" = none) (g_tuple : mg "tuple" = none) (g_len : mg "len" = none) (i_LARGEST_SIZE : mg "LARGEST_SIZE" = some (.int 4 t_LARGEST_SIZE)) (f : Addr) (cdv : Value) (A : Around) (out : List Env) (s : Shared) (G : Hp) (E : XK) (cn : Cn (XO P w K mg base N_is_line "is_line" s_is_line f cdv A out s G E) (fun c d _ H => E c d H) 1) :
    PSs (XO P w K mg base N_is_line "is_line" s_is_line f cdv A out s G E) (defBody s_is_line) (tS K (fun c d _ H => E c d H) (M_is_line F_is_name F_is_number)) :=
  have nd : (N_is_line).Nodup := sc_is_line.nd
  (sss_cons (ss_if (st_w (sw_or (st_not (st_val (se_isi .tup (sp_var 0) g_isinstance g_tuple))) (sw_or (st_not (st_chain op_leA op_leA sem_le sem_le (sp_e se_int) (sp_e (se_blt call_lenA sem_len g_len (spa_cons (sp_var 0) spa_nil))) (sp_e se_int))) (sw_or1 (st_not (st_val (se_def D_is_name r_is_name cn (sda_cons (se_ix (sp_var 0) (sp_e se_int)) sda_nil)))))))) (sss_one (ss_ret se_bl)) sss_nil)
    (sss_cons (ss_if (st_cmp (op_eqC cn) sem_eq (sp_e (se_blt call_lenA sem_len g_len (spa_cons (sp_var 0) spa_nil))) (sp_e se_int) (nomark _)) (sss_one (ss_ret (se_cmp (op_inA cn) sem_in (sp_e (se_ix (sp_var 0) (sp_e se_int))) (sp_e (se_tup (sda_cons se_str (sda_cons se_str (sda_cons se_str sda_nil))))) (by with_unfolding_all rfl)))) sss_nil)
    (sss_one (ss_ret (se_and (se_cmp (op_inA cn) sem_in (sp_e (se_ix (sp_var 0) (sp_e se_int))) (sp_e (se_tup (sda_cons se_str (sda_cons se_str sda_nil)))) (by with_unfolding_all rfl)) (se_one (se_def D_is_number r_is_number cn (sda_cons (se_ix (sp_var 0) (sp_e se_int)) (sda_cons (se_gint (i := 4) (by rfl) i_LARGEST_SIZE) sda_nil)))))))))
/-! ### _law_open_in -/
abbrev s__law_open_in : Stmt := topS 20
abbrev N__law_open_in : List Str := ["value", "stock", "at", "opened", "spot", "line"]
theorem sc__law_open_in : FnScope N__law_open_in ["value"] (defScope s__law_open_in) := ⟨rfl, rfl, rfl, by decide +kernel, rfl, by decide +kernel, by decide +kernel⟩
def M__law_open_in (F_is_line : FF) : Mo Out :=
  (seqM (ifM (orT (notT (testM (isiM [.tup] (slotM 0)))) (orT (testM (opM dEq (slotM 0) (immM (tupM (pure []))))) (testM (opM dNe (immM (lcM [5] (itemsM (slotM 0 >>= leak)) (tgN 5) (notT (testM (callM F_is_line (consD (slotM 5 >>= leak) (pure []))))) (pure (.int 1)))) (immM (lstM (pure []))))))) (retM (pure .non)) (pure .nx))
  (seqM (setF 1 (lstM (pure [])))
  (seqM (forM (rngM1 (consD (bltM dLen (consP (slotM 0) (pure []))) (pure []))) (tgN 2) (seqM (setF 3 (lcM [4] (rngM1 (consD (slotM 2 >>= leak) (pure []))) (tgN 4) (andT (testM (opM dEq (immM (opM dIx (immM (opM dIx (slotM 0) (slotM 4))) (immM (pure (.int 0))))) (immM (pure (.str "enter"))))) (testM (opM dNotIn (slotM 4) (slotM 1)))) (slotM 4 >>= leak)))
  (seqM (ifM (andT (testM (opM dEq (slotM 3) (immM (lstM (pure []))))) (orT (testM (opM dGt (slotM 2) (immM (pure (.int 0))))) (testM (opM dNe (immM (opM dIx (immM (opM dIx (slotM 0) (slotM 2))) (immM (pure (.int 0))))) (immM (pure (.str "enter"))))))) (retM (pure .non)) (pure .nx))
  (ifM (testM (opM dEq (immM (opM dIx (immM (opM dIx (slotM 0) (slotM 2))) (immM (pure (.int 0))))) (immM (pure (.str "leave"))))) (seqM (ifM (testM (opM dNe (immM (opM dIx (immM (opM dIx (slotM 0) (immM (opM dIx (slotM 3) (immM (pure (.int (-1)))))))) (immM (pure (.int 1))))) (immM (opM dIx (immM (opM dIx (slotM 0) (slotM 2))) (immM (pure (.int 1))))))) (retM (pure .non)) (pure .nx))
  (dropM (appM 1 (opM dIx (slotM 3) (immM (pure (.int (-1)))))))) (pure .nx)))))
  (retM (lcM [4] (rngM1 (consD (bltM dLen (consP (slotM 0) (pure []))) (pure []))) (tgN 4) (andT (testM (opM dEq (immM (opM dIx (immM (opM dIx (slotM 0) (slotM 4))) (immM (pure (.int 0))))) (immM (pure (.str "enter"))))) (testM (opM dNotIn (slotM 4) (slotM 1)))) (opM dIx (immM (opM dIx (slotM 0) (slotM 4))) (immM (pure (.int 1)))))))))
theorem b__law_open_in {P : Program} {w : World} {K : PySem.W.Frag} {mg : Str → Option Value} {base : Heap} {F_is_line : FF} {f_is_line : Addr} {d_is_line : FuncData} (D_is_line : Df P w K mg base 2 "is_line" f_is_line d_is_line ["value"] false F_is_line) (r_is_line : Ar F_is_line false 1) (g_isinstance : mg "isinstance" = none) (g_tuple : mg "tuple" = none) (g_range : mg "range" = none) (g_len : mg "len" = none) (f : Addr) (cdv : Value) (A : Around) (out : List Env) (s : Shared) (G : Hp) (E : XK) (cn : Cn (XO P w K mg base N__law_open_in "_law_open_in" s__law_open_in f cdv A out s G E) (fun c d _ H => E c d H) 2) :
    PSs (XO P w K mg base N__law_open_in "_law_open_in" s__law_open_in f cdv A out s G E) (defBody s__law_open_in) (tS K (fun c d _ H => E c d H) (M__law_open_in F_is_line)) :=
  have nd : (N__law_open_in).Nodup := sc__law_open_in.nd
  (sss_cons (ss_if (st_w (sw_or (st_not (st_val (se_isi .tup (sp_var 0) g_isinstance g_tuple))) (sw_or (st_cmp (op_eqC cn) sem_eq (sp_var 0) (sp_e (se_tup sda_nil)) (nomark _)) (sw_or1 (st_cmp (op_neC cn) sem_ne (sp_f (sf_lc cn nd (si_seq (se_leak (sp_var 0))) (blkOk_by (own := [("line", 5)]) (N := N__law_open_in) (sc := defScope s__law_open_in) (by decide +kernel)) (fun _ _ _ _ _ => (pg_name (i := 5) nd rfl (Or.inl rfl))) (sg_n 5) (by decide) (fun _ _ _ _ _ cn => (spts_one (st_not (st_val (se_def D_is_line r_is_line cn (sda_cons (se_leak (sp_var 5)) sda_nil)))))) (fun _ _ _ _ _ cn => se_int))) (sp_f (sf_lst sda_nil)) (nomark _)))))) (sss_one (ss_ret se_non)) sss_nil)
    (sss_cons (ss_setF 1 nd (sf_lst sda_nil))
    (sss_cons (ss_for cn (si_range1 g_range (sda_cons (se_blt call_lenA sem_len g_len (spa_cons (sp_var 0) spa_nil)) sda_nil)) (pg_name (i := 2) nd rfl (Or.inl rfl)) (sg_n 2) (sss_cons (ss_setLc 3 cn nd rfl rfl (sw_true rfl rfl rfl (by decide +kernel)) (si_range1 g_range (sda_cons (se_leak (sp_var 2)) sda_nil)) (blkOk_by (own := [("spot", 4)]) (N := N__law_open_in) (sc := defScope s__law_open_in) (by decide +kernel)) (fun _ _ _ _ _ => (pg_name (i := 4) nd rfl (Or.inl rfl))) (sg_n 4) (by decide) (fun _ _ _ _ _ cn => (spts_one (st_w (sw_and (st_cmp (op_eqC cn) sem_eq (sp_e (se_ix (sp_e (se_ix (sp_var 0) (sp_var 4))) (sp_e se_int))) (sp_e se_str) (nomark _)) (sw_and1 (st_cmp (op_notInA cn) sem_notIn (sp_var 4) (sp_var 1) (by with_unfolding_all rfl))))))) (fun _ _ _ _ _ cn => (se_leak (sp_var 4))))
    (sss_cons (ss_if (st_w (sw_and (st_cmp (op_eqC cn) sem_eq (sp_var 3) (sp_f (sf_lst sda_nil)) (nomark _)) (sw_and1 (st_w (sw_or (st_cmp op_gtA sem_gt (sp_var 2) (sp_e se_int) (nomark _)) (sw_or1 (st_cmp (op_neC cn) sem_ne (sp_e (se_ix (sp_e (se_ix (sp_var 0) (sp_var 2))) (sp_e se_int))) (sp_e se_str) (nomark _)))))))) (sss_one (ss_ret se_non)) sss_nil)
    (sss_one (ss_if (st_cmp (op_eqC cn) sem_eq (sp_e (se_ix (sp_e (se_ix (sp_var 0) (sp_var 2))) (sp_e se_int))) (sp_e se_str) (nomark _)) (sss_cons (ss_if (st_cmp (op_neC cn) sem_ne (sp_e (se_ix (sp_e (se_ix (sp_var 0) (sp_e (se_ix (sp_var 3) (sp_e se_negC))))) (sp_e se_int))) (sp_e (se_ix (sp_e (se_ix (sp_var 0) (sp_var 2))) (sp_e se_int))) (nomark _)) (sss_one (ss_ret se_non)) sss_nil)
    (sss_one (ss_expr (se_append 1 (se_ix (sp_var 3) (sp_e se_negC)))))) sss_nil)))))
    (sss_one (ss_ret (se_f (sf_lc cn nd (si_range1 g_range (sda_cons (se_blt call_lenA sem_len g_len (spa_cons (sp_var 0) spa_nil)) sda_nil)) (blkOk_by (own := [("spot", 4)]) (N := N__law_open_in) (sc := defScope s__law_open_in) (by decide +kernel)) (fun _ _ _ _ _ => (pg_name (i := 4) nd rfl (Or.inl rfl))) (sg_n 4) (by decide) (fun _ _ _ _ _ cn => (spts_one (st_w (sw_and (st_cmp (op_eqC cn) sem_eq (sp_e (se_ix (sp_e (se_ix (sp_var 0) (sp_var 4))) (sp_e se_int))) (sp_e se_str) (nomark _)) (sw_and1 (st_cmp (op_notInA cn) sem_notIn (sp_var 4) (sp_var 1) (by with_unfolding_all rfl))))))) (fun _ _ _ _ _ cn => (se_ix (sp_e (se_ix (sp_var 0) (sp_var 4))) (sp_e se_int))))))))))
/-! ### _law_near -/
abbrev s__law_near : Stmt := topS 22
abbrev N__law_near : List Str := ["urn", "log", "at", "to", "line", "name", "rest", "odd", "none", "found", "leaves", "whole", "one"]
theorem sc__law_near : FnScope N__law_near ["urn", "log"] (defScope s__law_near) := ⟨rfl, rfl, rfl, by decide +kernel, rfl, by decide +kernel, by decide +kernel⟩
def M__law_near (F__law_take : FF) (F__law_name : FF) (F__law_one : FF) (F__law_open_in : FF) : Mo Out :=
  (seqM (putP 2 3 false false (callIo 0 F__law_take (consD (bltM dLen (consP (slotM 1) (pure []))) (pure []))) (callIo 0 F__law_take (consD (opM dAdd (immM (bltM dLen (consP (slotM 1) (pure [])))) (immM (pure (.int 1)))) (pure []))))
  (seqM (putP 4 5 false false (opM dIx (slotM 1) (slotM 2)) (callIo 0 F__law_name (pure [])))
  (seqM (setM 6 (opM dAdd (immM (slM (slotM 1) (pure none) (partM (slotM 2 >>= leak)))) (immM (slM (slotM 1) (partM (opM dAdd (slotM 2) (immM (pure (.int 1))))) (pure none)))))
  (seqM (setM 7 (callIo 0 F__law_one (consD (lstM (consD (tupM (consD (pure (.str "leave")) (consD (slotM 5 >>= leak) (pure [])))) (consD (tupM (consD (pure (.str "enter")) (consD (slotM 5 >>= leak) (pure [])))) (consD (tupM (consD (pure (.str "say")) (consD (slotM 5 >>= leak) (pure [])))) (consD (tupM (consD (pure (.str "leave")) (consD (opM dIx (immM (opM dIx (slotM 1) (immM (pure (.int 0))))) (immM (pure (.int 1)))) (pure [])))) (consD (tupM (consD (opM dIx (slotM 4) (immM (pure (.int 0)))) (consD (slotM 5 >>= leak) (pure [])))) (pure []))))))) (pure []))))
  (seqM (setM 8 (callIo 0 F__law_one (consD (lstM (consD (pure .non) (consD (tupM (pure [])) (consD (tupM (consD (pure (.str "say")) (pure []))) (consD (tupM (consD (pure (.str "say")) (consD (pure (.str "a")) (consD (pure (.int 4)) (pure []))))) (consD (bltM dList (consP (slotM 4) (pure []))) (consD (tupM (consD (pure (.str "tell")) (consD (pure (.str "a")) (pure [])))) (consD (pure (.str "enter a")) (consD (pure (.int 0)) (consD (pure (.bl true)) (pure []))))))))))) (pure []))))
  (seqM (setF 9 (lstM (consD (slotM 1 >>= leak) (consD (bltM dList (consP (slotM 1) (pure []))) (consD (slotM 6 >>= leak) (consD (opM dAdd (immM (opM dAdd (immM (slM (slotM 1) (pure none) (partM (slotM 2 >>= leak)))) (immM (tupM (consD (slotM 4 >>= leak) (pure [])))))) (immM (slM (slotM 1) (partM (slotM 2 >>= leak)) (pure none)))) (consD (opM dAdd (immM (opM dAdd (immM (slM (slotM 6) (pure none) (partM (slotM 3 >>= leak)))) (immM (tupM (consD (slotM 4 >>= leak) (pure [])))))) (immM (slM (slotM 6) (partM (slotM 3 >>= leak)) (pure none)))) (consD (slM (slotM 1) (pure none) (partM (slotM 3 >>= leak))) (consD (slM (slotM 1) (partM (slotM 3 >>= leak)) (pure none)) (pure []))))))))))
  (seqM (setM 9 (opM dAdd (slotM 9) (immM (lstM (consD (opM dAdd (immM (opM dAdd (immM (slM (slotM 1) (pure none) (partM (slotM 3 >>= leak)))) (immM (tupM (consD (slotM 7 >>= leak) (pure [])))))) (immM (slM (slotM 1) (partM (slotM 3 >>= leak)) (pure none)))) (consD (opM dAdd (immM (opM dAdd (immM (slM (slotM 1) (pure none) (partM (slotM 3 >>= leak)))) (immM (tupM (consD (slotM 8 >>= leak) (pure [])))))) (immM (slM (slotM 1) (partM (slotM 3 >>= leak)) (pure none)))) (consD (revP (slotM 1)) (consD (opM dAdd (slotM 1) (slotM 1)) (consD (opM dAdd (slotM 1) (immM (tupM (consD (slotM 7 >>= leak) (pure []))))) (pure []))))))))))
  (seqM (setM 10 (bltM dTuple (consP (immM (lcM [12] (itemsM (revP (immM (orTV (callM F__law_open_in (consD (slotM 1 >>= leak) (pure []))) (lstM (pure [])))))) (tgN 12) noT (tupM (consD (pure (.str "leave")) (consD (slotM 12 >>= leak) (pure [])))))) (pure []))))
  (seqM (setM 11 (opM dAdd (slotM 1) (slotM 10)))
  (seqM (setM 9 (opM dAdd (slotM 9) (immM (lstM (consD (slotM 11 >>= leak) (consD (opM dAdd (slotM 11) (immM (tupM (consD (tupM (consD (pure (.str "say")) (consD (pure (.str "a")) (pure [])))) (pure []))))) (consD (opM dAdd (slotM 11) (immM (tupM (consD (tupM (consD (pure (.str "enter")) (consD (slotM 5 >>= leak) (pure [])))) (pure []))))) (consD (opM dAdd (slotM 11) (slotM 10)) (consD (slM (slotM 11) (pure none) (partM (pure (.int (-1))))) (pure []))))))))))
  (retM (opM dAdd (slotM 9) (immM (lstM (consD (tupM (consD (slotM 7 >>= leak) (pure []))) (consD (tupM (consD (slotM 8 >>= leak) (pure []))) (consD (slotM 4 >>= leak) (consD (pure .non) (consD (pure (.int 0)) (consD (pure (.dct [])) (consD (pure (.str "log")) (consD (tupM (consD (tupM (consD (slotM 4 >>= leak) (pure []))) (pure []))) (pure [])))))))))))))))))))))))
theorem b__law_near {P : Program} {w : World} {K : PySem.W.Frag} {mg : Str → Option Value} {base : Heap} {F__law_take : FF} {F__law_name : FF} {F__law_one : FF} {F__law_open_in : FF} {f__law_take : Addr} {d__law_take : FuncData} {f__law_name : Addr} {d__law_name : FuncData} {f__law_one : Addr} {d__law_one : FuncData} {f__law_open_in : Addr} {d__law_open_in : FuncData} (D__law_take : Df P w K mg base 1 "_law_take" f__law_take d__law_take ["urn", "total"] false F__law_take) (r__law_take : Ar F__law_take true 1) (D__law_name : Df P w K mg base 2 "_law_name" f__law_name d__law_name ["urn"] false F__law_name) (r__law_name : Ar F__law_name true 0) (D__law_one : Df P w K mg base 2 "_law_one" f__law_one d__law_one ["urn", "items"] false F__law_one) (r__law_one : Ar F__law_one true 1) (D__law_open_in : Df P w K mg base 3 "_law_open_in" f__law_open_in d__law_open_in ["value"] false F__law_open_in) (r__law_open_in : Ar F__law_open_in false 1) (g_len : mg "len" = none) (g_list : mg "list" = none) (g_tuple : mg "tuple" = none) (f : Addr) (cdv : Value) (A : Around) (out : List Env) (s : Shared) (G : Hp) (E : XK) (cn : Cn (XO P w K mg base N__law_near "_law_near" s__law_near f cdv A out s G E) (fun c d _ H => E c d H) 3) :
    PSs (XO P w K mg base N__law_near "_law_near" s__law_near f cdv A out s G E) (defBody s__law_near) (tS K (fun c d _ H => E c d H) (M__law_near F__law_take F__law_name F__law_one F__law_open_in)) :=
  have nd : (N__law_near).Nodup := sc__law_near.nd
  (sss_cons (ss_par 2 3 false false cn nd (se_defU 0 D__law_take r__law_take cn (sva (ha := (sda_cons (se_blt call_lenA sem_len g_len (spa_cons (sp_var 1) spa_nil)) sda_nil)))) (se_defU 0 D__law_take r__law_take cn (sva (ha := (sda_cons (se_op op_addA sem_add (sp_e (se_blt call_lenA sem_len g_len (spa_cons (sp_var 1) spa_nil))) (sp_e se_int)) sda_nil)))))
    (sss_cons (ss_par 4 5 false false cn nd (se_ix (sp_var 1) (sp_var 2)) (se_defU 0 D__law_name r__law_name cn (sva (ha := sda_nil))))
    (sss_cons (ss_set 6 nd (se_op op_addA sem_add (sp_e (se_sl (sp_var 1) so_none (so_some (se_leak (sp_var 2))))) (sp_e (se_sl (sp_var 1) (so_some (se_op op_addA sem_add (sp_var 2) (sp_e se_int))) so_none))))
    (sss_cons (ss_set 7 nd (se_defU 0 D__law_one r__law_one cn (sva (ha := (sda_cons (se_f (sf_lst (sda_cons (se_tup (sda_cons se_str (sda_cons (se_leak (sp_var 5)) sda_nil))) (sda_cons (se_tup (sda_cons se_str (sda_cons (se_leak (sp_var 5)) sda_nil))) (sda_cons (se_tup (sda_cons se_str (sda_cons (se_leak (sp_var 5)) sda_nil))) (sda_cons (se_tup (sda_cons se_str (sda_cons (se_ix (sp_e (se_ix (sp_var 1) (sp_e se_int))) (sp_e se_int)) sda_nil))) (sda_cons (se_tup (sda_cons (se_ix (sp_var 4) (sp_e se_int)) (sda_cons (se_leak (sp_var 5)) sda_nil))) sda_nil))))))) sda_nil)))))
    (sss_cons (ss_set 8 nd (se_defU 0 D__law_one r__law_one cn (sva (ha := (sda_cons (se_f (sf_lst (sda_cons se_non (sda_cons (se_tup sda_nil) (sda_cons (se_tup (sda_cons se_str sda_nil)) (sda_cons (se_tup (sda_cons se_str (sda_cons se_str (sda_cons se_int sda_nil)))) (sda_cons (se_f (sf_bty call_list_of fsem_list g_list (spa_cons (sp_var 4) spa_nil))) (sda_cons (se_tup (sda_cons se_str (sda_cons se_str sda_nil))) (sda_cons se_str (sda_cons se_int (sda_cons se_bl sda_nil))))))))))) sda_nil)))))
    (sss_cons (ss_setF 9 nd (sf_lst (sda_cons (se_leak (sp_var 1)) (sda_cons (se_f (sf_bty call_list_of fsem_list g_list (spa_cons (sp_var 1) spa_nil))) (sda_cons (se_leak (sp_var 6)) (sda_cons (se_op op_addA sem_add (sp_e (se_op op_addA sem_add (sp_e (se_sl (sp_var 1) so_none (so_some (se_leak (sp_var 2))))) (sp_e (se_tup (sda_cons (se_leak (sp_var 4)) sda_nil))))) (sp_e (se_sl (sp_var 1) (so_some (se_leak (sp_var 2))) so_none))) (sda_cons (se_op op_addA sem_add (sp_e (se_op op_addA sem_add (sp_e (se_sl (sp_var 6) so_none (so_some (se_leak (sp_var 3))))) (sp_e (se_tup (sda_cons (se_leak (sp_var 4)) sda_nil))))) (sp_e (se_sl (sp_var 6) (so_some (se_leak (sp_var 3))) so_none))) (sda_cons (se_sl (sp_var 1) so_none (so_some (se_leak (sp_var 3)))) (sda_cons (se_sl (sp_var 1) (so_some (se_leak (sp_var 3))) so_none) sda_nil)))))))))
    (sss_cons (ss_set 9 nd (se_op op_addA sem_add (sp_var 9) (sp_f (sf_lst (sda_cons (se_op op_addA sem_add (sp_e (se_op op_addA sem_add (sp_e (se_sl (sp_var 1) so_none (so_some (se_leak (sp_var 3))))) (sp_e (se_tup (sda_cons (se_leak (sp_var 7)) sda_nil))))) (sp_e (se_sl (sp_var 1) (so_some (se_leak (sp_var 3))) so_none))) (sda_cons (se_op op_addA sem_add (sp_e (se_op op_addA sem_add (sp_e (se_sl (sp_var 1) so_none (so_some (se_leak (sp_var 3))))) (sp_e (se_tup (sda_cons (se_leak (sp_var 8)) sda_nil))))) (sp_e (se_sl (sp_var 1) (so_some (se_leak (sp_var 3))) so_none))) (sda_cons (se_rev (sp_var 1)) (sda_cons (se_op op_addA sem_add (sp_var 1) (sp_var 1)) (sda_cons (se_op op_addA sem_add (sp_var 1) (sp_e (se_tup (sda_cons (se_leak (sp_var 7)) sda_nil)))) sda_nil)))))))))
    (sss_cons (ss_set 10 nd (se_bty call_tuple_of sem_tuple g_tuple (spa_cons (sp_f (sf_lc cn nd (si_seq (se_rev (sp_e (se_orT (se_def D__law_open_in r__law_open_in cn (sda_cons (se_leak (sp_var 1)) sda_nil)) (se_one (se_f (sf_lst sda_nil))))))) (blkOk_by (own := [("one", 12)]) (N := N__law_near) (sc := defScope s__law_near) (by decide +kernel)) (fun _ _ _ _ _ => (pg_name (i := 12) nd rfl (Or.inl rfl))) (sg_n 12) (by decide) (fun _ _ _ _ _ cn => spts_nil) (fun _ _ _ _ _ cn => (se_tup (sda_cons se_str (sda_cons (se_leak (sp_var 12)) sda_nil)))))) spa_nil)))
    (sss_cons (ss_set 11 nd (se_op op_addA sem_add (sp_var 1) (sp_var 10)))
    (sss_cons (ss_set 9 nd (se_op op_addA sem_add (sp_var 9) (sp_f (sf_lst (sda_cons (se_leak (sp_var 11)) (sda_cons (se_op op_addA sem_add (sp_var 11) (sp_e (se_tup (sda_cons (se_tup (sda_cons se_str (sda_cons se_str sda_nil))) sda_nil)))) (sda_cons (se_op op_addA sem_add (sp_var 11) (sp_e (se_tup (sda_cons (se_tup (sda_cons se_str (sda_cons (se_leak (sp_var 5)) sda_nil))) sda_nil)))) (sda_cons (se_op op_addA sem_add (sp_var 11) (sp_var 10)) (sda_cons (se_sl (sp_var 11) so_none (so_some se_negC)) sda_nil)))))))))
    (sss_one (ss_ret (se_op op_addA sem_add (sp_var 9) (sp_f (sf_lst (sda_cons (se_tup (sda_cons (se_leak (sp_var 7)) sda_nil)) (sda_cons (se_tup (sda_cons (se_leak (sp_var 8)) sda_nil)) (sda_cons (se_leak (sp_var 4)) (sda_cons se_non (sda_cons se_int (sda_cons se_dnil (sda_cons se_str (sda_cons (se_tup (sda_cons (se_tup (sda_cons (se_leak (sp_var 4)) sda_nil)) sda_nil)) sda_nil)))))))))))))))))))))))
/-! ### _calls_of -/
abbrev s__calls_of : Stmt := topS 12
abbrev N__calls_of : List Str := ["log", "calls", "line"]
theorem sc__calls_of : FnScope N__calls_of ["log"] (defScope s__calls_of) := ⟨rfl, rfl, rfl, by decide +kernel, rfl, by decide +kernel, by decide +kernel⟩
def M__calls_of (F_is_line : FF) : Mo Out :=
  (seqM (ifM (orT (notT (testM (isiM [.tup] (slotM 0)))) (notT (testM (bltM dAll (consP (immM (lcM [2] (itemsM (slotM 0 >>= leak)) (tgN 2) noT (callM F_is_line (consD (slotM 2 >>= leak) (pure []))))) (pure [])))))) (retM (pure .non)) (pure .nx))
  (seqM (ifM (orT (notT (truT (slotM 0))) (testM (opM dNe (immM (opM dIx (immM (opM dIx (slotM 0) (immM (pure (.int 0))))) (immM (pure (.int 0))))) (immM (pure (.str "enter")))))) (retM (pure .non)) (pure .nx))
  (seqM (setF 1 (lstM (consD (opM dIx (immM (opM dIx (slotM 0) (immM (pure (.int 0))))) (immM (pure (.int 1)))) (pure []))))
  (seqM (forM (itemsM (slM (slotM 0) (partM (pure (.int 1))) (pure none))) (tgN 2) (seqM (ifM (orT (notT (truT (slotM 1))) (andT (testM (opM dEq (immM (opM dIx (slotM 2) (immM (pure (.int 0))))) (immM (pure (.str "leave"))))) (testM (opM dNe (immM (opM dIx (slotM 2) (immM (pure (.int 1))))) (immM (opM dIx (slotM 1) (immM (pure (.int (-1)))))))))) (retM (pure .non)) (pure .nx))
  (seqM (ifM (testM (opM dEq (immM (opM dIx (slotM 2) (immM (pure (.int 0))))) (immM (pure (.str "enter"))))) (dropM (appM 1 (opM dIx (slotM 2) (immM (pure (.int 1)))))) (pure .nx))
  (ifM (testM (opM dEq (immM (opM dIx (slotM 2) (immM (pure (.int 0))))) (immM (pure (.str "leave"))))) (dropM (popM 1)) (pure .nx)))))
  (retM (slotM 1 >>= leak))))))
theorem b__calls_of {P : Program} {w : World} {K : PySem.W.Frag} {mg : Str → Option Value} {base : Heap} {F_is_line : FF} {f_is_line : Addr} {d_is_line : FuncData} (D_is_line : Df P w K mg base 2 "is_line" f_is_line d_is_line ["value"] false F_is_line) (r_is_line : Ar F_is_line false 1) (g_isinstance : mg "isinstance" = none) (g_tuple : mg "tuple" = none) (g_all : mg "all" = none) (f : Addr) (cdv : Value) (A : Around) (out : List Env) (s : Shared) (G : Hp) (E : XK) (cn : Cn (XO P w K mg base N__calls_of "_calls_of" s__calls_of f cdv A out s G E) (fun c d _ H => E c d H) 2) :
    PSs (XO P w K mg base N__calls_of "_calls_of" s__calls_of f cdv A out s G E) (defBody s__calls_of) (tS K (fun c d _ H => E c d H) (M__calls_of F_is_line)) :=
  have nd : (N__calls_of).Nodup := sc__calls_of.nd
  (sss_cons (ss_if (st_w (sw_or (st_not (st_val (se_isi .tup (sp_var 0) g_isinstance g_tuple))) (sw_or1 (st_not (st_val (se_blt (cr_all cn.cm) sem_all g_all (spa_cons (sp_f (sf_lc cn nd (si_seq (se_leak (sp_var 0))) (blkOk_by (own := [("line", 2)]) (N := N__calls_of) (sc := defScope s__calls_of) (by decide +kernel)) (fun _ _ _ _ _ => (pg_name (i := 2) nd rfl (Or.inl rfl))) (sg_n 2) (by decide) (fun _ _ _ _ _ cn => spts_nil) (fun _ _ _ _ _ cn => (se_def D_is_line r_is_line cn (sda_cons (se_leak (sp_var 2)) sda_nil))))) spa_nil))))))) (sss_one (ss_ret se_non)) sss_nil)
    (sss_cons (ss_if (st_w (sw_or (st_not (st_tru (sp_var 0))) (sw_or1 (st_cmp (op_neC cn) sem_ne (sp_e (se_ix (sp_e (se_ix (sp_var 0) (sp_e se_int))) (sp_e se_int))) (sp_e se_str) (nomark _))))) (sss_one (ss_ret se_non)) sss_nil)
    (sss_cons (ss_setF 1 nd (sf_lst (sda_cons (se_ix (sp_e (se_ix (sp_var 0) (sp_e se_int))) (sp_e se_int)) sda_nil)))
    (sss_cons (ss_for cn (si_seq (se_sl (sp_var 0) (so_some se_int) so_none)) (pg_name (i := 2) nd rfl (Or.inl rfl)) (sg_n 2) (sss_cons (ss_if (st_w (sw_or (st_not (st_tru (sp_var 1))) (sw_or1 (st_w (sw_and (st_cmp (op_eqC cn) sem_eq (sp_e (se_ix (sp_var 2) (sp_e se_int))) (sp_e se_str) (nomark _)) (sw_and1 (st_cmp (op_neC cn) sem_ne (sp_e (se_ix (sp_var 2) (sp_e se_int))) (sp_e (se_ix (sp_var 1) (sp_e se_negC))) (nomark _)))))))) (sss_one (ss_ret se_non)) sss_nil)
    (sss_cons (ss_if (st_cmp (op_eqC cn) sem_eq (sp_e (se_ix (sp_var 2) (sp_e se_int))) (sp_e se_str) (nomark _)) (sss_one (ss_expr (se_append 1 (se_ix (sp_var 2) (sp_e se_int))))) sss_nil)
    (sss_one (ss_if (st_cmp (op_eqC cn) sem_eq (sp_e (se_ix (sp_var 2) (sp_e se_int))) (sp_e se_str) (nomark _)) (sss_one (ss_expr (se_pop 1))) sss_nil)))))
    (sss_one (ss_ret (se_leak (sp_var 1))))))))
/-! ### is_log -/
abbrev s_is_log : Stmt := topS 10
abbrev N_is_log : List Str := ["value"]
theorem sc_is_log : FnScope N_is_log ["value"] (defScope s_is_log) := ⟨rfl, rfl, rfl, by decide +kernel, rfl, by decide +kernel, by decide +kernel⟩
def M_is_log (F__calls_of : FF) : Mo Out :=
  (retM (opM dNotN (immM (callM F__calls_of (consD (slotM 0 >>= leak) (pure [])))) (immM (pure .non))))
theorem b_is_log {P : Program} {w : World} {K : PySem.W.Frag} {mg : Str → Option Value} {base : Heap} {F__calls_of : FF} {f__calls_of : Addr} {d__calls_of : FuncData} (D__calls_of : Df P w K mg base 3 "_calls_of" f__calls_of d__calls_of ["log"] false F__calls_of) (r__calls_of : Ar F__calls_of false 1) (f : Addr) (cdv : Value) (A : Around) (out : List Env) (s : Shared) (G : Hp) (E : XK) (cn : Cn (XO P w K mg base N_is_log "is_log" s_is_log f cdv A out s G E) (fun c d _ H => E c d H) 3) :
    PSs (XO P w K mg base N_is_log "is_log" s_is_log f cdv A out s G E) (defBody s_is_log) (tS K (fun c d _ H => E c d H) (M_is_log F__calls_of)) :=
  have nd : (N_is_log).Nodup := sc_is_log.nd
  (sss_one (ss_ret (se_cmp op_notN sem_notN (sp_e (se_def D__calls_of r__calls_of cn (sda_cons (se_leak (sp_var 0)) sda_nil))) (sp_e se_non) (nomark _))))
/-! ### open_calls -/
abbrev s_open_calls : Stmt := topS 11
abbrev N_open_calls : List Str := ["log", "calls"]
theorem sc_open_calls : FnScope N_open_calls ["log"] (defScope s_open_calls) := ⟨rfl, rfl, rfl, by decide +kernel, rfl, by decide +kernel, by decide +kernel⟩
def M_open_calls (cov : Value → Value → Option Bool) (E_InvalidLog : Value) (F__calls_of : FF) : Mo Out :=
  (seqM (setM 1 (callM F__calls_of (consD (slotM 0 >>= leak) (pure []))))
  (seqM (ifM (testM (opM dIsN (slotM 1) (immM (pure .non)))) (raiseM E_InvalidLog) (pure .nx))
  (retM (bltM dTuple (consP (slotM 1) (pure []))))))
theorem b_open_calls {P : Program} {w : World} {K : PySem.W.Frag} {mg : Str → Option Value} {base : Heap} {E_InvalidLog : Value} {F__calls_of : FF} {f__calls_of : Addr} {d__calls_of : FuncData} (e_InvalidLog : Er K mg "InvalidLog" E_InvalidLog) (D__calls_of : Df P w K mg base 3 "_calls_of" f__calls_of d__calls_of ["log"] false F__calls_of) (r__calls_of : Ar F__calls_of false 1) (g_tuple : mg "tuple" = none) (f : Addr) (cdv : Value) (A : Around) (out : List Env) (s : Shared) (G : Hp) (E : XK) (cn : Cn (XO P w K mg base N_open_calls "open_calls" s_open_calls f cdv A out s G E) (fun c d _ H => E c d H) 3) :
    PSs (XO P w K mg base N_open_calls "open_calls" s_open_calls f cdv A out s G E) (defBody s_open_calls) (tS K (fun c d _ H => E c d H) (M_open_calls (PySem.W.exmOne K) E_InvalidLog F__calls_of)) :=
  have nd : (N_open_calls).Nodup := sc_open_calls.nd
  (sss_cons (ss_set 1 nd (se_def D__calls_of r__calls_of cn (sda_cons (se_leak (sp_var 0)) sda_nil)))
    (sss_cons (ss_if (st_cmp op_isN sem_isN (sp_var 1) (sp_e se_non) (nomark _)) (sss_one (ss_raise e_InvalidLog cn)) sss_nil)
    (sss_one (ss_ret (se_bty call_tuple_of sem_tuple g_tuple (spa_cons (sp_var 1) spa_nil))))))
/-! ### _law_refused -/
abbrev s__law_refused : Stmt := topS 23
abbrev N__law_refused : List Str := ["value"]
theorem sc__law_refused : FnScope N__law_refused ["value"] (defScope s__law_refused) := ⟨rfl, rfl, rfl, by decide +kernel, rfl, by decide +kernel, by decide +kernel⟩
def M__law_refused (cov : Value → Value → Option Bool) (E_InvalidLog : Value) (F_open_calls : FF) : Mo Out :=
  (seqM (tryM (fun e => cov e E_InvalidLog) (dropM (callM F_open_calls (consD (slotM 0 >>= leak) (pure [])))) (retM (pure (.bl true))))
  (retM (pure (.bl false))))
theorem b__law_refused {P : Program} {w : World} {K : PySem.W.Frag} {mg : Str → Option Value} {base : Heap} {E_InvalidLog : Value} {F_open_calls : FF} {f_open_calls : Addr} {d_open_calls : FuncData} (e_InvalidLog : Er K mg "InvalidLog" E_InvalidLog) (D_open_calls : Df P w K mg base 4 "open_calls" f_open_calls d_open_calls ["log"] false F_open_calls) (r_open_calls : Ar F_open_calls false 1) (f : Addr) (cdv : Value) (A : Around) (out : List Env) (s : Shared) (G : Hp) (E : XK) (cn : Cn (XO P w K mg base N__law_refused "_law_refused" s__law_refused f cdv A out s G E) (fun c d _ H => E c d H) 4) :
    PSs (XO P w K mg base N__law_refused "_law_refused" s__law_refused f cdv A out s G E) (defBody s__law_refused) (tS K (fun c d _ H => E c d H) (M__law_refused (PySem.W.exmOne K) E_InvalidLog F_open_calls)) :=
  have nd : (N__law_refused).Nodup := sc__law_refused.nd
  (sss_cons (ss_try (.inl e_InvalidLog.mg) cn rfl rfl (fun W pn xe cn => (sss_one (ss_expr (se_def D_open_calls r_open_calls cn (sda_cons (se_leak (sp_var 0)) sda_nil))))) (fun a pn => (sss_one (ss_ret se_bl))))
    (sss_one (ss_ret se_bl)))
/-! ### _law_right -/
abbrev s__law_right : Stmt := topS 24
abbrev N__law_right : List Str := ["urn", "log", "value", "due", "text"]
theorem sc__law_right : FnScope N__law_right ["urn"] (defScope s__law_right) := ⟨rfl, rfl, rfl, by decide +kernel, rfl, by decide +kernel, by decide +kernel⟩
def M__law_right (cov : Value → Value → Option Bool) (E_InvalidLog : Value) (F__law_log : FF) (F__law_near : FF) (F__law_open_in : FF) (F_is_log : FF) (F__law_refused : FF) (F_open_calls : FF) : Mo Out :=
  (seqM (setM 1 (callIo 0 F__law_log (pure [])))
  (seqM (forM (itemsM (opM dAdd (immM (callIo 0 F__law_near (consD (slotM 1 >>= leak) (pure [])))) (immM (lstM (consD (slotM 1 >>= leak) (pure [])))))) (tgN 2) (seqM (putP 3 4 false false (callM F__law_open_in (consD (slotM 2 >>= leak) (pure []))) (bltM dRepr (consP (slotM 2) (pure []))))
  (seqM (ifM (orT (testM (opM dNe (immM (callM F_is_log (consD (slotM 2 >>= leak) (pure [])))) (immM (opM dNotN (slotM 3) (immM (pure .non)))))) (testM (opM dNe (immM (callM F__law_refused (consD (slotM 2 >>= leak) (pure [])))) (immM (opM dIsN (slotM 3) (immM (pure .non))))))) (retM (pure (.bl false))) (pure .nx))
  (seqM (ifM (andT (testM (opM dNotN (slotM 3) (immM (pure .non)))) (testM (opM dNe (immM (bltM dRepr (consP (immM (callM F_open_calls (consD (slotM 2 >>= leak) (pure [])))) (pure [])))) (immM (bltM dRepr (consP (immM (bltM dTuple (consP (slotM 3) (pure [])))) (pure []))))))) (retM (pure (.bl false))) (pure .nx))
  (ifM (testM (opM dNe (immM (bltM dRepr (consP (slotM 2) (pure [])))) (slotM 4))) (retM (pure (.bl false))) (pure .nx))))))
  (retM (andV (callM F_is_log (consD (slotM 1 >>= leak) (pure []))) (andV (notV (testM (callM F_is_log (consD (tupM (pure [])) (pure []))))) (callM F__law_refused (consD (tupM (pure [])) (pure []))))))))
theorem b__law_right {P : Program} {w : World} {K : PySem.W.Frag} {mg : Str → Option Value} {base : Heap} {E_InvalidLog : Value} {F__law_log : FF} {F__law_near : FF} {F__law_open_in : FF} {F_is_log : FF} {F__law_refused : FF} {F_open_calls : FF} {f__law_log : Addr} {d__law_log : FuncData} {f__law_near : Addr} {d__law_near : FuncData} {f__law_open_in : Addr} {d__law_open_in : FuncData} {f_is_log : Addr} {d_is_log : FuncData} {f__law_refused : Addr} {d__law_refused : FuncData} {f_open_calls : Addr} {d_open_calls : FuncData} (e_InvalidLog : Er K mg "InvalidLog" E_InvalidLog) (D__law_log : Df P w K mg base 4 "_law_log" f__law_log d__law_log ["urn"] false F__law_log) (r__law_log : Ar F__law_log true 0) (D__law_near : Df P w K mg base 4 "_law_near" f__law_near d__law_near ["urn", "log"] false F__law_near) (r__law_near : Ar F__law_near true 1) (D__law_open_in : Df P w K mg base 3 "_law_open_in" f__law_open_in d__law_open_in ["value"] false F__law_open_in) (r__law_open_in : Ar F__law_open_in false 1) (D_is_log : Df P w K mg base 4 "is_log" f_is_log d_is_log ["value"] false F_is_log) (r_is_log : Ar F_is_log false 1) (D__law_refused : Df P w K mg base 5 "_law_refused" f__law_refused d__law_refused ["value"] false F__law_refused) (r__law_refused : Ar F__law_refused false 1) (D_open_calls : Df P w K mg base 4 "open_calls" f_open_calls d_open_calls ["log"] false F_open_calls) (r_open_calls : Ar F_open_calls false 1) (g_repr : mg "repr" = none) (g_tuple : mg "tuple" = none) (f : Addr) (cdv : Value) (A : Around) (out : List Env) (s : Shared) (G : Hp) (E : XK) (cn : Cn (XO P w K mg base N__law_right "_law_right" s__law_right f cdv A out s G E) (fun c d _ H => E c d H) 5) :
    PSs (XO P w K mg base N__law_right "_law_right" s__law_right f cdv A out s G E) (defBody s__law_right) (tS K (fun c d _ H => E c d H) (M__law_right (PySem.W.exmOne K) E_InvalidLog F__law_log F__law_near F__law_open_in F_is_log F__law_refused F_open_calls)) :=
  have nd : (N__law_right).Nodup := sc__law_right.nd
  (sss_cons (ss_set 1 nd (se_defU 0 D__law_log r__law_log cn (sva (ha := sda_nil))))
    (sss_cons (ss_for cn (si_seq (se_op op_addA sem_add (sp_e (se_defU 0 D__law_near r__law_near cn (sva (ha := (sda_cons (se_leak (sp_var 1)) sda_nil))))) (sp_f (sf_lst (sda_cons (se_leak (sp_var 1)) sda_nil))))) (pg_name (i := 2) nd rfl (Or.inl rfl)) (sg_n 2) (sss_cons (ss_par 3 4 false false cn nd (se_def D__law_open_in r__law_open_in cn (sda_cons (se_leak (sp_var 2)) sda_nil)) (se_blt (call_repr cn) sem_repr g_repr (spa_cons (sp_var 2) spa_nil)))
    (sss_cons (ss_if (st_w (sw_or (st_cmp (op_neC cn) sem_ne (sp_e (se_def D_is_log r_is_log cn (sda_cons (se_leak (sp_var 2)) sda_nil))) (sp_e (se_cmp op_notN sem_notN (sp_var 3) (sp_e se_non) (nomark _))) (nomark _)) (sw_or1 (st_cmp (op_neC cn) sem_ne (sp_e (se_def D__law_refused r__law_refused cn (sda_cons (se_leak (sp_var 2)) sda_nil))) (sp_e (se_cmp op_isN sem_isN (sp_var 3) (sp_e se_non) (nomark _))) (nomark _))))) (sss_one (ss_ret se_bl)) sss_nil)
    (sss_cons (ss_if (st_w (sw_and (st_cmp op_notN sem_notN (sp_var 3) (sp_e se_non) (nomark _)) (sw_and1 (st_cmp (op_neC cn) sem_ne (sp_e (se_blt (call_repr cn) sem_repr g_repr (spa_cons (sp_e (se_def D_open_calls r_open_calls cn (sda_cons (se_leak (sp_var 2)) sda_nil))) spa_nil))) (sp_e (se_blt (call_repr cn) sem_repr g_repr (spa_cons (sp_e (se_bty call_tuple_of sem_tuple g_tuple (spa_cons (sp_var 3) spa_nil))) spa_nil))) (nomark _))))) (sss_one (ss_ret se_bl)) sss_nil)
    (sss_one (ss_if (st_cmp (op_neC cn) sem_ne (sp_e (se_blt (call_repr cn) sem_repr g_repr (spa_cons (sp_var 2) spa_nil))) (sp_var 4) (nomark _)) (sss_one (ss_ret se_bl)) sss_nil))))))
    (sss_one (ss_ret (se_and (se_def D_is_log r_is_log cn (sda_cons (se_leak (sp_var 1)) sda_nil)) (se_and (se_notB (se_def D_is_log r_is_log cn (sda_cons (se_tup sda_nil) sda_nil))) (se_one (se_def D__law_refused r__law_refused cn (sda_cons (se_tup sda_nil) sda_nil)))))))))
/-! ### law -/
abbrev s_law : Stmt := topS 25
abbrev N_law : List Str := ["script", "at", "deep", "told", "urn", "turn"]
theorem sc_law : FnScope N_law ["script"] (defScope s_law) := ⟨rfl, rfl, rfl, by decide +kernel, rfl, by decide +kernel, by decide +kernel⟩
def M_law (cov : Value → Value → Option Bool) (E_InvalidLog : Value) (F__law_urn : FF) (F__law_right : FF) (F_is_log : FF) (F_open_calls : FF) : Mo Out :=
  (seqM (forM (rngM1 (consD (bltM dMax (consP (immM (pure (.int 1))) (consP (immM (bltM dMin (consP (immM (pure (.int 8))) (consP (immM (bltM dLen (consP (slotM 0) (pure [])))) (pure []))))) (pure [])))) (pure []))) (tgN 1) (seqM (setF 4 (callM F__law_urn (consD (slotM 0 >>= leak) (consD (slotM 1 >>= leak) (pure [])))))
  (forM (rngM1 (consD (pure (.int 3)) (pure []))) (tgN 5) (ifM (notT (testM (callIo 4 F__law_right (pure [])))) (retM (pure (.bl false))) (pure .nx)))))
  (seqM (setM 2 (bltM dTuple (consP (immM (opM dAdd (immM (opM dAdd (immM (opM dMul (immM (lstM (consD (tupM (consD (pure (.str "enter")) (consD (pure (.str "p")) (pure [])))) (pure [])))) (immM (pure (.int 60))))) (immM (lstM (consD (tupM (consD (pure (.str "say")) (consD (pure (.str "a")) (pure [])))) (pure [])))))) (immM (opM dMul (immM (lstM (consD (tupM (consD (pure (.str "leave")) (consD (pure (.str "p")) (pure [])))) (pure [])))) (immM (pure (.int 60))))))) (pure []))))
  (seqM (setF 3 (lstM (consD (callM F_is_log (consD (slM (slotM 2) (pure none) (partM (pure (.int 120)))) (pure []))) (consD (callM F_is_log (consD (slotM 2 >>= leak) (pure []))) (consD (callM F_is_log (consD (opM dAdd (slotM 2) (immM (slM (slotM 2) (partM (pure (.int (-1)))) (pure none)))) (pure []))) (consD (callM F_is_log (consD (opM dAdd (slotM 2) (immM (slM (slotM 2) (pure none) (partM (pure (.int 1)))))) (pure []))) (pure [])))))))
  (retM (andV (opM dEq (slotM 3) (immM (lstM (consD (pure (.bl true)) (consD (pure (.bl true)) (consD (pure (.bl false)) (consD (pure (.bl false)) (pure [])))))))) (opM dEq (immM (lstM (consD (bltM dLen (consP (immM (callM F_open_calls (consD (slM (slotM 2) (pure none) (partM (pure (.int 119)))) (pure [])))) (pure []))) (consD (callM F_open_calls (consD (slotM 2 >>= leak) (pure []))) (pure []))))) (immM (lstM (consD (pure (.int 2)) (consD (tupM (pure [])) (pure [])))))))))))
theorem b_law {P : Program} {w : World} {K : PySem.W.Frag} {mg : Str → Option Value} {base : Heap} {E_InvalidLog : Value} {F__law_urn : FF} {F__law_right : FF} {F_is_log : FF} {F_open_calls : FF} {f__law_urn : Addr} {d__law_urn : FuncData} {f__law_right : Addr} {d__law_right : FuncData} {f_is_log : Addr} {d_is_log : FuncData} {f_open_calls : Addr} {d_open_calls : FuncData} (e_InvalidLog : Er K mg "InvalidLog" E_InvalidLog) (D__law_urn : Df P w K mg base 1 "_law_urn" f__law_urn d__law_urn ["script", "at"] true F__law_urn) (r__law_urn : Ar F__law_urn false 2) (D__law_right : Df P w K mg base 6 "_law_right" f__law_right d__law_right ["urn"] false F__law_right) (r__law_right : Ar F__law_right true 0) (D_is_log : Df P w K mg base 4 "is_log" f_is_log d_is_log ["value"] false F_is_log) (r_is_log : Ar F_is_log false 1) (D_open_calls : Df P w K mg base 4 "open_calls" f_open_calls d_open_calls ["log"] false F_open_calls) (r_open_calls : Ar F_open_calls false 1) (g_range : mg "range" = none) (g_max : mg "max" = none) (g_min : mg "min" = none) (g_len : mg "len" = none) (g_tuple : mg "tuple" = none) (f : Addr) (cdv : Value) (A : Around) (out : List Env) (s : Shared) (G : Hp) (E : XK) (cn : Cn (XO P w K mg base N_law "law" s_law f cdv A out s G E) (fun c d _ H => E c d H) 6) :
    PSs (XO P w K mg base N_law "law" s_law f cdv A out s G E) (defBody s_law) (tS K (fun c d _ H => E c d H) (M_law (PySem.W.exmOne K) E_InvalidLog F__law_urn F__law_right F_is_log F_open_calls)) :=
  have nd : (N_law).Nodup := sc_law.nd
  (sss_cons (ss_for cn (si_range1 g_range (sda_cons (se_blt (call_max2 cn.cm) sem_max g_max (spa_cons (sp_e se_int) (spa_cons (sp_e (se_blt (call_min2 cn.cm) sem_min g_min (spa_cons (sp_e se_int) (spa_cons (sp_e (se_blt call_lenA sem_len g_len (spa_cons (sp_var 0) spa_nil))) spa_nil)))) spa_nil))) sda_nil)) (pg_name (i := 1) nd rfl (Or.inl rfl)) (sg_n 1) (sss_cons (ss_setF 4 nd (sf_def D__law_urn r__law_urn cn (sda_cons (se_leak (sp_var 0)) (sda_cons (se_leak (sp_var 1)) sda_nil))))
    (sss_one (ss_for cn (si_range1 g_range (sda_cons se_int sda_nil)) (pg_name (i := 5) nd rfl (Or.inl rfl)) (sg_n 5) (sss_one (ss_if (st_not (st_val (se_defU 4 D__law_right r__law_right cn (sva (ha := sda_nil))))) (sss_one (ss_ret se_bl)) sss_nil))))))
    (sss_cons (ss_set 2 nd (se_bty call_tuple_of sem_tuple g_tuple (spa_cons (sp_e (se_op op_addA sem_add (sp_e (se_op op_addA sem_add (sp_e (se_op op_mulA sem_mul (sp_f (sf_lst (sda_cons (se_tup (sda_cons se_str (sda_cons se_str sda_nil))) sda_nil))) (sp_e se_int))) (sp_f (sf_lst (sda_cons (se_tup (sda_cons se_str (sda_cons se_str sda_nil))) sda_nil))))) (sp_e (se_op op_mulA sem_mul (sp_f (sf_lst (sda_cons (se_tup (sda_cons se_str (sda_cons se_str sda_nil))) sda_nil))) (sp_e se_int))))) spa_nil)))
    (sss_cons (ss_setF 3 nd (sf_lst (sda_cons (se_def D_is_log r_is_log cn (sda_cons (se_sl (sp_var 2) so_none (so_some se_int)) sda_nil)) (sda_cons (se_def D_is_log r_is_log cn (sda_cons (se_leak (sp_var 2)) sda_nil)) (sda_cons (se_def D_is_log r_is_log cn (sda_cons (se_op op_addA sem_add (sp_var 2) (sp_e (se_sl (sp_var 2) (so_some se_negC) so_none))) sda_nil)) (sda_cons (se_def D_is_log r_is_log cn (sda_cons (se_op op_addA sem_add (sp_var 2) (sp_e (se_sl (sp_var 2) so_none (so_some se_int)))) sda_nil)) sda_nil))))))
    (sss_one (ss_ret (se_and (se_cmp (op_eqC cn) sem_eq (sp_var 3) (sp_f (sf_lst (sda_cons se_bl (sda_cons se_bl (sda_cons se_bl (sda_cons se_bl sda_nil)))))) (nomark _)) (se_one (se_cmp (op_eqC cn) sem_eq (sp_f (sf_lst (sda_cons (se_blt call_lenA sem_len g_len (spa_cons (sp_e (se_def D_open_calls r_open_calls cn (sda_cons (se_sl (sp_var 2) so_none (so_some se_int)) sda_nil))) spa_nil)) (sda_cons (se_def D_open_calls r_open_calls cn (sda_cons (se_leak (sp_var 2)) sda_nil)) sda_nil)))) (sp_f (sf_lst (sda_cons se_int (sda_cons (se_tup sda_nil) sda_nil)))) (nomark _)))))))))
def F__law_urn : FF := runF true false 2 5 (M__law_urn)
def F__law_take : FF := runF false true 1 6 (M__law_take)
def F__law_name : FF := runF false true 0 3 (M__law_name F__law_take)
def F__law_names : FF := runF false true 1 7 (M__law_names F__law_name)
def F__law_one : FF := runF false true 1 2 (M__law_one F__law_take)
def F__law_log : FF := runF false true 0 9 (M__law_log F__law_names F__law_take F__law_one)
def F_is_name : FF := runF false false 1 1 (M_is_name)
def F_is_number : FF := runF false false 2 2 (M_is_number)
def F_is_line : FF := runF false false 1 1 (M_is_line F_is_name F_is_number)
def F__law_open_in : FF := runF false false 1 6 (M__law_open_in F_is_line)
def F__law_near : FF := runF false true 1 13 (M__law_near F__law_take F__law_name F__law_one F__law_open_in)
def F__calls_of : FF := runF false false 1 3 (M__calls_of F_is_line)
def F_is_log : FF := runF false false 1 1 (M_is_log F__calls_of)
def F_open_calls (cov : Value → Value → Option Bool) (E_InvalidLog : Value) : FF := runF false false 1 2 (M_open_calls cov E_InvalidLog F__calls_of)
def F__law_refused (cov : Value → Value → Option Bool) (E_InvalidLog : Value) : FF := runF false false 1 1 (M__law_refused cov E_InvalidLog (F_open_calls cov E_InvalidLog))
def F__law_right (cov : Value → Value → Option Bool) (E_InvalidLog : Value) : FF := runF false true 0 5 (M__law_right cov E_InvalidLog F__law_log F__law_near F__law_open_in F_is_log (F__law_refused cov E_InvalidLog) (F_open_calls cov E_InvalidLog))
def F_law (cov : Value → Value → Option Bool) (E_InvalidLog : Value) : FF := runF false false 1 6 (M_law cov E_InvalidLog F__law_urn (F__law_right cov E_InvalidLog) F_is_log (F_open_calls cov E_InvalidLog))
theorem df__law_urn {P : Program} {w : World} {K : PySem.W.Frag} {mg : Str → Option Value} {base : Heap} {f : Addr} {fd : FuncData} (sy : Sys base) (Fn : Fun K "_law_urn" "_law_urn" s__law_urn f fd) (a : mg "_law_urn" = some (.ref f)) (bd : Binds K fd ["script", "at"] []) (g_len : mg "len" = none) (g_int : mg "int" = none) (g_abs : mg "abs" = none) (g_max : mg "max" = none) : Df P w K mg base 1 "_law_urn" f fd ["script", "at"] true F__law_urn :=
  ⟨fn_data (VS.Fun.g Fn) sc__law_urn sy bodyOk_run (fun cdv A out s G E cn => b__law_urn g_len g_int g_abs g_max f cdv A out s G E cn), a, Fn.kp, bd⟩
theorem df__law_take {P : Program} {w : World} {K : PySem.W.Frag} {mg : Str → Option Value} {base : Heap} {f : Addr} {fd : FuncData} (sy : Sys base) (Fn : Fun K "_law_take" "_law_take" s__law_take f fd) (a : mg "_law_take" = some (.ref f)) (bd : Binds K fd ["urn", "total"] []) (g_int : mg "int" = none) : Df P w K mg base 1 "_law_take" f fd ["urn", "total"] false F__law_take :=
  ⟨fn_data (VS.Fun.g Fn) sc__law_take sy bodyOk_run (fun cdv A out s G E cn => b__law_take g_int f cdv A out s G E cn), a, Fn.kp, bd⟩
theorem df__law_name {P : Program} {w : World} {K : PySem.W.Frag} {mg : Str → Option Value} {base : Heap} {f : Addr} {fd : FuncData} {f__law_take : Addr} {d__law_take : FuncData} (sy : Sys base) (Fn : Fun K "_law_name" "_law_name" s__law_name f fd) (a : mg "_law_name" = some (.ref f)) (bd : Binds K fd ["urn"] []) (D__law_take : Df P w K mg base 1 "_law_take" f__law_take d__law_take ["urn", "total"] false F__law_take) (g_range : mg "range" = none) : Df P w K mg base 2 "_law_name" f fd ["urn"] false F__law_name :=
  ⟨fn_data (VS.Fun.g Fn) sc__law_name sy bodyOk_run (fun cdv A out s G E cn => b__law_name D__law_take ar_run g_range f cdv A out s G E cn), a, Fn.kp, bd⟩
theorem df__law_names {P : Program} {w : World} {K : PySem.W.Frag} {mg : Str → Option Value} {base : Heap} {f : Addr} {fd : FuncData} {f__law_name : Addr} {d__law_name : FuncData} (sy : Sys base) (Fn : Fun K "_law_names" "_law_names" s__law_names f fd) (a : mg "_law_names" = some (.ref f)) (bd : Binds K fd ["urn", "many"] []) (D__law_name : Df P w K mg base 2 "_law_name" f__law_name d__law_name ["urn"] false F__law_name) (g_range : mg "range" = none) : Df P w K mg base 3 "_law_names" f fd ["urn", "many"] false F__law_names :=
  ⟨fn_data (VS.Fun.g Fn) sc__law_names sy bodyOk_run (fun cdv A out s G E cn => b__law_names D__law_name ar_run g_range f cdv A out s G E cn), a, Fn.kp, bd⟩
theorem df__law_one {P : Program} {w : World} {K : PySem.W.Frag} {mg : Str → Option Value} {base : Heap} {f : Addr} {fd : FuncData} {f__law_take : Addr} {d__law_take : FuncData} (sy : Sys base) (Fn : Fun K "_law_one" "_law_one" s__law_one f fd) (a : mg "_law_one" = some (.ref f)) (bd : Binds K fd ["urn", "items"] []) (D__law_take : Df P w K mg base 1 "_law_take" f__law_take d__law_take ["urn", "total"] false F__law_take) (g_len : mg "len" = none) : Df P w K mg base 2 "_law_one" f fd ["urn", "items"] false F__law_one :=
  ⟨fn_data (VS.Fun.g Fn) sc__law_one sy bodyOk_run (fun cdv A out s G E cn => b__law_one D__law_take ar_run g_len f cdv A out s G E cn), a, Fn.kp, bd⟩
theorem df__law_log {P : Program} {w : World} {K : PySem.W.Frag} {mg : Str → Option Value} {base : Heap} {f : Addr} {fd : FuncData} {f__law_names : Addr} {d__law_names : FuncData} {f__law_take : Addr} {d__law_take : FuncData} {f__law_one : Addr} {d__law_one : FuncData} (sy : Sys base) (Fn : Fun K "_law_log" "_law_log" s__law_log f fd) (a : mg "_law_log" = some (.ref f)) (bd : Binds K fd ["urn"] []) (D__law_names : Df P w K mg base 3 "_law_names" f__law_names d__law_names ["urn", "many"] false F__law_names) (D__law_take : Df P w K mg base 1 "_law_take" f__law_take d__law_take ["urn", "total"] false F__law_take) (D__law_one : Df P w K mg base 2 "_law_one" f__law_one d__law_one ["urn", "items"] false F__law_one) (g_range : mg "range" = none) (g_len : mg "len" = none) (g_tuple : mg "tuple" = none) : Df P w K mg base 4 "_law_log" f fd ["urn"] false F__law_log :=
  ⟨fn_data (VS.Fun.g Fn) sc__law_log sy bodyOk_run (fun cdv A out s G E cn => b__law_log D__law_names ar_run D__law_take ar_run D__law_one ar_run g_range g_len g_tuple f cdv A out s G E cn), a, Fn.kp, bd⟩
theorem df_is_name {P : Program} {w : World} {K : PySem.W.Frag} {mg : Str → Option Value} {base : Heap} {f : Addr} {fd : FuncData} {t_MOST_LETTERS : Tok} (sy : Sys base) (Fn : Fun K "is_name" "is_name" s_is_name f fd) (a : mg "is_name" = some (.ref f)) (bd : Binds K fd ["value"] []) (g_isinstance : mg "isinstance" = none) (g_str : mg "str" = none) (g_len : mg "len" = none) (i_MOST_LETTERS : mg "MOST_LETTERS" = some (.int 8 t_MOST_LETTERS)) : Df P w K mg base 1 "is_name" f fd ["value"] false F_is_name :=
  ⟨fn_data (VS.Fun.g Fn) sc_is_name sy bodyOk_run (fun cdv A out s G E cn => b_is_name g_isinstance g_str g_len i_MOST_LETTERS f cdv A out s G E cn), a, Fn.kp, bd⟩
theorem df_is_number {P : Program} {w : World} {K : PySem.W.Frag} {mg : Str → Option Value} {base : Heap} {f : Addr} {fd : FuncData} (sy : Sys base) (Fn : Fun K "is_number" "is_number" s_is_number f fd) (a : mg "is_number" = some (.ref f)) (bd : Binds K fd ["value", "size"] []) (g_isinstance : mg "isinstance" = none) (g_int : mg "int" = none) (g_bool : mg "bool" = none) : Df P w K mg base 1 "is_number" f fd ["value", "size"] false F_is_number :=
  ⟨fn_data (VS.Fun.g Fn) sc_is_number sy bodyOk_run (fun cdv A out s G E cn => b_is_number g_isinstance g_int g_bool f cdv A out s G E cn), a, Fn.kp, bd⟩
theorem df_is_line {P : Program} {w : World} {K : PySem.W.Frag} {mg : Str → Option Value} {base : Heap} {f : Addr} {fd : FuncData} {f_is_name : Addr} {d_is_name : FuncData} {f_is_number : Addr} {d_is_number : FuncData} {t_LARGEST_SIZE : Tok} (sy : Sys base) (Fn : Fun K "is_line" "is_line" s_is_line f fd) (a : mg "is_line" = some (.ref f)) (bd : Binds K fd ["value"] []) (D_is_name : Df P w K mg base 1 "is_name" f_is_name d_is_name ["value"] false F_is_name) (D_is_number : Df P w K mg base 1 "is_number" f_is_number d_is_number ["value", "size"] false F_is_number) (g_isinstance : mg "isinstance" = none) (g_tuple : mg "tuple" = none) (g_len : mg "len" = none) (i_LARGEST_SIZE : mg "LARGEST_SIZE" = some (.int 4 t_LARGEST_SIZE)) : Df P w K mg base 2 "is_line" f fd ["value"] false F_is_line :=
  ⟨fn_data (VS.Fun.g Fn) sc_is_line sy bodyOk_run (fun cdv A out s G E cn => b_is_line D_is_name ar_run D_is_number ar_run g_isinstance g_tuple g_len i_LARGEST_SIZE f cdv A out s G E cn), a, Fn.kp, bd⟩
theorem df__law_open_in {P : Program} {w : World} {K : PySem.W.Frag} {mg : Str → Option Value} {base : Heap} {f : Addr} {fd : FuncData} {f_is_line : Addr} {d_is_line : FuncData} (sy : Sys base) (Fn : Fun K "_law_open_in" "_law_open_in" s__law_open_in f fd) (a : mg "_law_open_in" = some (.ref f)) (bd : Binds K fd ["value"] []) (D_is_line : Df P w K mg base 2 "is_line" f_is_line d_is_line ["value"] false F_is_line) (g_isinstance : mg "isinstance" = none) (g_tuple : mg "tuple" = none) (g_range : mg "range" = none) (g_len : mg "len" = none) : Df P w K mg base 3 "_law_open_in" f fd ["value"] false F__law_open_in :=
  ⟨fn_data (VS.Fun.g Fn) sc__law_open_in sy bodyOk_run (fun cdv A out s G E cn => b__law_open_in D_is_line ar_run g_isinstance g_tuple g_range g_len f cdv A out s G E cn), a, Fn.kp, bd⟩
theorem df__law_near {P : Program} {w : World} {K : PySem.W.Frag} {mg : Str → Option Value} {base : Heap} {f : Addr} {fd : FuncData} {f__law_take : Addr} {d__law_take : FuncData} {f__law_name : Addr} {d__law_name : FuncData} {f__law_one : Addr} {d__law_one : FuncData} {f__law_open_in : Addr} {d__law_open_in : FuncData} (sy : Sys base) (Fn : Fun K "_law_near" "_law_near" s__law_near f fd) (a : mg "_law_near" = some (.ref f)) (bd : Binds K fd ["urn", "log"] []) (D__law_take : Df P w K mg base 1 "_law_take" f__law_take d__law_take ["urn", "total"] false F__law_take) (D__law_name : Df P w K mg base 2 "_law_name" f__law_name d__law_name ["urn"] false F__law_name) (D__law_one : Df P w K mg base 2 "_law_one" f__law_one d__law_one ["urn", "items"] false F__law_one) (D__law_open_in : Df P w K mg base 3 "_law_open_in" f__law_open_in d__law_open_in ["value"] false F__law_open_in) (g_len : mg "len" = none) (g_list : mg "list" = none) (g_tuple : mg "tuple" = none) : Df P w K mg base 4 "_law_near" f fd ["urn", "log"] false F__law_near :=
  ⟨fn_data (VS.Fun.g Fn) sc__law_near sy bodyOk_run (fun cdv A out s G E cn => b__law_near D__law_take ar_run D__law_name ar_run D__law_one ar_run D__law_open_in ar_run g_len g_list g_tuple f cdv A out s G E cn), a, Fn.kp, bd⟩
theorem df__calls_of {P : Program} {w : World} {K : PySem.W.Frag} {mg : Str → Option Value} {base : Heap} {f : Addr} {fd : FuncData} {f_is_line : Addr} {d_is_line : FuncData} (sy : Sys base) (Fn : Fun K "_calls_of" "_calls_of" s__calls_of f fd) (a : mg "_calls_of" = some (.ref f)) (bd : Binds K fd ["log"] []) (D_is_line : Df P w K mg base 2 "is_line" f_is_line d_is_line ["value"] false F_is_line) (g_isinstance : mg "isinstance" = none) (g_tuple : mg "tuple" = none) (g_all : mg "all" = none) : Df P w K mg base 3 "_calls_of" f fd ["log"] false F__calls_of :=
  ⟨fn_data (VS.Fun.g Fn) sc__calls_of sy bodyOk_run (fun cdv A out s G E cn => b__calls_of D_is_line ar_run g_isinstance g_tuple g_all f cdv A out s G E cn), a, Fn.kp, bd⟩
theorem df_is_log {P : Program} {w : World} {K : PySem.W.Frag} {mg : Str → Option Value} {base : Heap} {f : Addr} {fd : FuncData} {f__calls_of : Addr} {d__calls_of : FuncData} (sy : Sys base) (Fn : Fun K "is_log" "is_log" s_is_log f fd) (a : mg "is_log" = some (.ref f)) (bd : Binds K fd ["value"] []) (D__calls_of : Df P w K mg base 3 "_calls_of" f__calls_of d__calls_of ["log"] false F__calls_of) : Df P w K mg base 4 "is_log" f fd ["value"] false F_is_log :=
  ⟨fn_data (VS.Fun.g Fn) sc_is_log sy bodyOk_run (fun cdv A out s G E cn => b_is_log D__calls_of ar_run f cdv A out s G E cn), a, Fn.kp, bd⟩
theorem df_open_calls {P : Program} {w : World} {K : PySem.W.Frag} {mg : Str → Option Value} {base : Heap} {f : Addr} {fd : FuncData} {E_InvalidLog : Value} {f__calls_of : Addr} {d__calls_of : FuncData} (sy : Sys base) (Fn : Fun K "open_calls" "open_calls" s_open_calls f fd) (a : mg "open_calls" = some (.ref f)) (bd : Binds K fd ["log"] []) (e_InvalidLog : Er K mg "InvalidLog" E_InvalidLog) (D__calls_of : Df P w K mg base 3 "_calls_of" f__calls_of d__calls_of ["log"] false F__calls_of) (g_tuple : mg "tuple" = none) : Df P w K mg base 4 "open_calls" f fd ["log"] false (F_open_calls (PySem.W.exmOne K) E_InvalidLog) :=
  ⟨fn_data (VS.Fun.g Fn) sc_open_calls sy bodyOk_run (fun cdv A out s G E cn => b_open_calls e_InvalidLog D__calls_of ar_run g_tuple f cdv A out s G E cn), a, Fn.kp, bd⟩
theorem df__law_refused {P : Program} {w : World} {K : PySem.W.Frag} {mg : Str → Option Value} {base : Heap} {f : Addr} {fd : FuncData} {E_InvalidLog : Value} {f_open_calls : Addr} {d_open_calls : FuncData} (sy : Sys base) (Fn : Fun K "_law_refused" "_law_refused" s__law_refused f fd) (a : mg "_law_refused" = some (.ref f)) (bd : Binds K fd ["value"] []) (e_InvalidLog : Er K mg "InvalidLog" E_InvalidLog) (D_open_calls : Df P w K mg base 4 "open_calls" f_open_calls d_open_calls ["log"] false (F_open_calls (PySem.W.exmOne K) E_InvalidLog)) : Df P w K mg base 5 "_law_refused" f fd ["value"] false (F__law_refused (PySem.W.exmOne K) E_InvalidLog) :=
  ⟨fn_data (VS.Fun.g Fn) sc__law_refused sy bodyOk_run (fun cdv A out s G E cn => b__law_refused e_InvalidLog D_open_calls ar_run f cdv A out s G E cn), a, Fn.kp, bd⟩
theorem df__law_right {P : Program} {w : World} {K : PySem.W.Frag} {mg : Str → Option Value} {base : Heap} {f : Addr} {fd : FuncData} {E_InvalidLog : Value} {f__law_log : Addr} {d__law_log : FuncData} {f__law_near : Addr} {d__law_near : FuncData} {f__law_open_in : Addr} {d__law_open_in : FuncData} {f_is_log : Addr} {d_is_log : FuncData} {f__law_refused : Addr} {d__law_refused : FuncData} {f_open_calls : Addr} {d_open_calls : FuncData} (sy : Sys base) (Fn : Fun K "_law_right" "_law_right" s__law_right f fd) (a : mg "_law_right" = some (.ref f)) (bd : Binds K fd ["urn"] []) (e_InvalidLog : Er K mg "InvalidLog" E_InvalidLog) (D__law_log : Df P w K mg base 4 "_law_log" f__law_log d__law_log ["urn"] false F__law_log) (D__law_near : Df P w K mg base 4 "_law_near" f__law_near d__law_near ["urn", "log"] false F__law_near) (D__law_open_in : Df P w K mg base 3 "_law_open_in" f__law_open_in d__law_open_in ["value"] false F__law_open_in) (D_is_log : Df P w K mg base 4 "is_log" f_is_log d_is_log ["value"] false F_is_log) (D__law_refused : Df P w K mg base 5 "_law_refused" f__law_refused d__law_refused ["value"] false (F__law_refused (PySem.W.exmOne K) E_InvalidLog)) (D_open_calls : Df P w K mg base 4 "open_calls" f_open_calls d_open_calls ["log"] false (F_open_calls (PySem.W.exmOne K) E_InvalidLog)) (g_repr : mg "repr" = none) (g_tuple : mg "tuple" = none) : Df P w K mg base 6 "_law_right" f fd ["urn"] false (F__law_right (PySem.W.exmOne K) E_InvalidLog) :=
  ⟨fn_data (VS.Fun.g Fn) sc__law_right sy bodyOk_run (fun cdv A out s G E cn => b__law_right e_InvalidLog D__law_log ar_run D__law_near ar_run D__law_open_in ar_run D_is_log ar_run D__law_refused ar_run D_open_calls ar_run g_repr g_tuple f cdv A out s G E cn), a, Fn.kp, bd⟩
theorem df_law {P : Program} {w : World} {K : PySem.W.Frag} {mg : Str → Option Value} {base : Heap} {f : Addr} {fd : FuncData} {E_InvalidLog : Value} {f__law_urn : Addr} {d__law_urn : FuncData} {f__law_right : Addr} {d__law_right : FuncData} {f_is_log : Addr} {d_is_log : FuncData} {f_open_calls : Addr} {d_open_calls : FuncData} (sy : Sys base) (Fn : Fun K "law" "law" s_law f fd) (a : mg "law" = some (.ref f)) (bd : Binds K fd ["script"] []) (e_InvalidLog : Er K mg "InvalidLog" E_InvalidLog) (D__law_urn : Df P w K mg base 1 "_law_urn" f__law_urn d__law_urn ["script", "at"] true F__law_urn) (D__law_right : Df P w K mg base 6 "_law_right" f__law_right d__law_right ["urn"] false (F__law_right (PySem.W.exmOne K) E_InvalidLog)) (D_is_log : Df P w K mg base 4 "is_log" f_is_log d_is_log ["value"] false F_is_log) (D_open_calls : Df P w K mg base 4 "open_calls" f_open_calls d_open_calls ["log"] false (F_open_calls (PySem.W.exmOne K) E_InvalidLog)) (g_range : mg "range" = none) (g_max : mg "max" = none) (g_min : mg "min" = none) (g_len : mg "len" = none) (g_tuple : mg "tuple" = none) : Df P w K mg base 7 "law" f fd ["script"] false (F_law (PySem.W.exmOne K) E_InvalidLog) :=
  ⟨fn_data (VS.Fun.g Fn) sc_law sy bodyOk_run (fun cdv A out s G E cn => b_law e_InvalidLog D__law_urn ar_run D__law_right ar_run D_is_log ar_run D_open_calls ar_run g_range g_max g_min g_len g_tuple f cdv A out s G E cn), a, Fn.kp, bd⟩
theorem all_mk {l : PySem.W.OpenLaw} {w : World} {K : PySem.W.Frag} {h : Heap} {mg : Str → Option Value} {fa : Addr} {f__law_urn : Addr} {oc__law_urn kV__law_urn dc__law_urn pm__law_urn cd__law_urn ct__law_urn : Value} {od__law_urn an__law_urn : Option Addr} {sl__law_urn : Array (Option Value)}
{f__law_take : Addr} {oc__law_take kV__law_take dc__law_take pm__law_take cd__law_take ct__law_take : Value} {od__law_take an__law_take : Option Addr} {sl__law_take : Array (Option Value)}
{f__law_name : Addr} {oc__law_name kV__law_name dc__law_name pm__law_name cd__law_name ct__law_name : Value} {od__law_name an__law_name : Option Addr} {sl__law_name : Array (Option Value)}
{f__law_names : Addr} {oc__law_names kV__law_names dc__law_names pm__law_names cd__law_names ct__law_names : Value} {od__law_names an__law_names : Option Addr} {sl__law_names : Array (Option Value)}
{f__law_one : Addr} {oc__law_one kV__law_one dc__law_one pm__law_one cd__law_one ct__law_one : Value} {od__law_one an__law_one : Option Addr} {sl__law_one : Array (Option Value)}
{f__law_log : Addr} {oc__law_log kV__law_log dc__law_log pm__law_log cd__law_log ct__law_log : Value} {od__law_log an__law_log : Option Addr} {sl__law_log : Array (Option Value)}
{f_is_name : Addr} {oc_is_name kV_is_name dc_is_name pm_is_name cd_is_name ct_is_name : Value} {od_is_name an_is_name : Option Addr} {sl_is_name : Array (Option Value)}
{f_is_number : Addr} {oc_is_number kV_is_number dc_is_number pm_is_number cd_is_number ct_is_number : Value} {od_is_number an_is_number : Option Addr} {sl_is_number : Array (Option Value)}
{f_is_line : Addr} {oc_is_line kV_is_line dc_is_line pm_is_line cd_is_line ct_is_line : Value} {od_is_line an_is_line : Option Addr} {sl_is_line : Array (Option Value)}
{f__law_open_in : Addr} {oc__law_open_in kV__law_open_in dc__law_open_in pm__law_open_in cd__law_open_in ct__law_open_in : Value} {od__law_open_in an__law_open_in : Option Addr} {sl__law_open_in : Array (Option Value)}
{f__law_near : Addr} {oc__law_near kV__law_near dc__law_near pm__law_near cd__law_near ct__law_near : Value} {od__law_near an__law_near : Option Addr} {sl__law_near : Array (Option Value)}
{f__calls_of : Addr} {oc__calls_of kV__calls_of dc__calls_of pm__calls_of cd__calls_of ct__calls_of : Value} {od__calls_of an__calls_of : Option Addr} {sl__calls_of : Array (Option Value)}
{f_is_log : Addr} {oc_is_log kV_is_log dc_is_log pm_is_log cd_is_log ct_is_log : Value} {od_is_log an_is_log : Option Addr} {sl_is_log : Array (Option Value)}
{f_open_calls : Addr} {oc_open_calls kV_open_calls dc_open_calls pm_open_calls cd_open_calls ct_open_calls : Value} {od_open_calls an_open_calls : Option Addr} {sl_open_calls : Array (Option Value)}
{f__law_refused : Addr} {oc__law_refused kV__law_refused dc__law_refused pm__law_refused cd__law_refused ct__law_refused : Value} {od__law_refused an__law_refused : Option Addr} {sl__law_refused : Array (Option Value)}
{f__law_right : Addr} {oc__law_right kV__law_right dc__law_right pm__law_right cd__law_right ct__law_right : Value} {od__law_right an__law_right : Option Addr} {sl__law_right : Array (Option Value)}
{f_law : Addr} {oc_law kV_law dc_law pm_law cd_law ct_law : Value} {od_law an_law : Option Addr} {sl_law : Array (Option Value)}
{t_LARGEST_SIZE : Tok}
{t_MOST_LETTERS : Tok}
{C_InvalidLog : Addr} (X : K.In h) (G : h.Ns mainGlobals mg) (hfa : mg "law" = some (.ref fa))
(a__law_urn : PySem.W.nsIn K mainGlobals "_law_urn" = some (some (.ref f__law_urn))) (l__law_urn : K.lookup f__law_urn = some ⟨oc__law_urn, od__law_urn, .func (PySem.W.fnOf "_law_urn" "_law_urn" (defArgs s__law_urn) (defBody s__law_urn) (defScope s__law_urn) .none kV__law_urn dc__law_urn pm__law_urn an__law_urn cd__law_urn ct__law_urn), sl__law_urn⟩) (c__law_urn : PySem.W.codeIn K cd__law_urn "_law_urn" = true) (k__law_urn : PySem.W.keepIn K (.ref f__law_urn) = true)
(a__law_take : PySem.W.nsIn K mainGlobals "_law_take" = some (some (.ref f__law_take))) (l__law_take : K.lookup f__law_take = some ⟨oc__law_take, od__law_take, .func (PySem.W.fnOf "_law_take" "_law_take" (defArgs s__law_take) (defBody s__law_take) (defScope s__law_take) .none kV__law_take dc__law_take pm__law_take an__law_take cd__law_take ct__law_take), sl__law_take⟩) (c__law_take : PySem.W.codeIn K cd__law_take "_law_take" = true) (k__law_take : PySem.W.keepIn K (.ref f__law_take) = true)
(a__law_name : PySem.W.nsIn K mainGlobals "_law_name" = some (some (.ref f__law_name))) (l__law_name : K.lookup f__law_name = some ⟨oc__law_name, od__law_name, .func (PySem.W.fnOf "_law_name" "_law_name" (defArgs s__law_name) (defBody s__law_name) (defScope s__law_name) .none kV__law_name dc__law_name pm__law_name an__law_name cd__law_name ct__law_name), sl__law_name⟩) (c__law_name : PySem.W.codeIn K cd__law_name "_law_name" = true) (k__law_name : PySem.W.keepIn K (.ref f__law_name) = true)
(a__law_names : PySem.W.nsIn K mainGlobals "_law_names" = some (some (.ref f__law_names))) (l__law_names : K.lookup f__law_names = some ⟨oc__law_names, od__law_names, .func (PySem.W.fnOf "_law_names" "_law_names" (defArgs s__law_names) (defBody s__law_names) (defScope s__law_names) .none kV__law_names dc__law_names pm__law_names an__law_names cd__law_names ct__law_names), sl__law_names⟩) (c__law_names : PySem.W.codeIn K cd__law_names "_law_names" = true) (k__law_names : PySem.W.keepIn K (.ref f__law_names) = true)
(a__law_one : PySem.W.nsIn K mainGlobals "_law_one" = some (some (.ref f__law_one))) (l__law_one : K.lookup f__law_one = some ⟨oc__law_one, od__law_one, .func (PySem.W.fnOf "_law_one" "_law_one" (defArgs s__law_one) (defBody s__law_one) (defScope s__law_one) .none kV__law_one dc__law_one pm__law_one an__law_one cd__law_one ct__law_one), sl__law_one⟩) (c__law_one : PySem.W.codeIn K cd__law_one "_law_one" = true) (k__law_one : PySem.W.keepIn K (.ref f__law_one) = true)
(a__law_log : PySem.W.nsIn K mainGlobals "_law_log" = some (some (.ref f__law_log))) (l__law_log : K.lookup f__law_log = some ⟨oc__law_log, od__law_log, .func (PySem.W.fnOf "_law_log" "_law_log" (defArgs s__law_log) (defBody s__law_log) (defScope s__law_log) .none kV__law_log dc__law_log pm__law_log an__law_log cd__law_log ct__law_log), sl__law_log⟩) (c__law_log : PySem.W.codeIn K cd__law_log "_law_log" = true) (k__law_log : PySem.W.keepIn K (.ref f__law_log) = true)
(a_is_name : PySem.W.nsIn K mainGlobals "is_name" = some (some (.ref f_is_name))) (l_is_name : K.lookup f_is_name = some ⟨oc_is_name, od_is_name, .func (PySem.W.fnOf "is_name" "is_name" (defArgs s_is_name) (defBody s_is_name) (defScope s_is_name) .none kV_is_name dc_is_name pm_is_name an_is_name cd_is_name ct_is_name), sl_is_name⟩) (c_is_name : PySem.W.codeIn K cd_is_name "is_name" = true) (k_is_name : PySem.W.keepIn K (.ref f_is_name) = true)
(a_is_number : PySem.W.nsIn K mainGlobals "is_number" = some (some (.ref f_is_number))) (l_is_number : K.lookup f_is_number = some ⟨oc_is_number, od_is_number, .func (PySem.W.fnOf "is_number" "is_number" (defArgs s_is_number) (defBody s_is_number) (defScope s_is_number) .none kV_is_number dc_is_number pm_is_number an_is_number cd_is_number ct_is_number), sl_is_number⟩) (c_is_number : PySem.W.codeIn K cd_is_number "is_number" = true) (k_is_number : PySem.W.keepIn K (.ref f_is_number) = true)
(a_is_line : PySem.W.nsIn K mainGlobals "is_line" = some (some (.ref f_is_line))) (l_is_line : K.lookup f_is_line = some ⟨oc_is_line, od_is_line, .func (PySem.W.fnOf "is_line" "is_line" (defArgs s_is_line) (defBody s_is_line) (defScope s_is_line) .none kV_is_line dc_is_line pm_is_line an_is_line cd_is_line ct_is_line), sl_is_line⟩) (c_is_line : PySem.W.codeIn K cd_is_line "is_line" = true) (k_is_line : PySem.W.keepIn K (.ref f_is_line) = true)
(a__law_open_in : PySem.W.nsIn K mainGlobals "_law_open_in" = some (some (.ref f__law_open_in))) (l__law_open_in : K.lookup f__law_open_in = some ⟨oc__law_open_in, od__law_open_in, .func (PySem.W.fnOf "_law_open_in" "_law_open_in" (defArgs s__law_open_in) (defBody s__law_open_in) (defScope s__law_open_in) .none kV__law_open_in dc__law_open_in pm__law_open_in an__law_open_in cd__law_open_in ct__law_open_in), sl__law_open_in⟩) (c__law_open_in : PySem.W.codeIn K cd__law_open_in "_law_open_in" = true) (k__law_open_in : PySem.W.keepIn K (.ref f__law_open_in) = true)
(a__law_near : PySem.W.nsIn K mainGlobals "_law_near" = some (some (.ref f__law_near))) (l__law_near : K.lookup f__law_near = some ⟨oc__law_near, od__law_near, .func (PySem.W.fnOf "_law_near" "_law_near" (defArgs s__law_near) (defBody s__law_near) (defScope s__law_near) .none kV__law_near dc__law_near pm__law_near an__law_near cd__law_near ct__law_near), sl__law_near⟩) (c__law_near : PySem.W.codeIn K cd__law_near "_law_near" = true) (k__law_near : PySem.W.keepIn K (.ref f__law_near) = true)
(a__calls_of : PySem.W.nsIn K mainGlobals "_calls_of" = some (some (.ref f__calls_of))) (l__calls_of : K.lookup f__calls_of = some ⟨oc__calls_of, od__calls_of, .func (PySem.W.fnOf "_calls_of" "_calls_of" (defArgs s__calls_of) (defBody s__calls_of) (defScope s__calls_of) .none kV__calls_of dc__calls_of pm__calls_of an__calls_of cd__calls_of ct__calls_of), sl__calls_of⟩) (c__calls_of : PySem.W.codeIn K cd__calls_of "_calls_of" = true) (k__calls_of : PySem.W.keepIn K (.ref f__calls_of) = true)
(a_is_log : PySem.W.nsIn K mainGlobals "is_log" = some (some (.ref f_is_log))) (l_is_log : K.lookup f_is_log = some ⟨oc_is_log, od_is_log, .func (PySem.W.fnOf "is_log" "is_log" (defArgs s_is_log) (defBody s_is_log) (defScope s_is_log) .none kV_is_log dc_is_log pm_is_log an_is_log cd_is_log ct_is_log), sl_is_log⟩) (c_is_log : PySem.W.codeIn K cd_is_log "is_log" = true) (k_is_log : PySem.W.keepIn K (.ref f_is_log) = true)
(a_open_calls : PySem.W.nsIn K mainGlobals "open_calls" = some (some (.ref f_open_calls))) (l_open_calls : K.lookup f_open_calls = some ⟨oc_open_calls, od_open_calls, .func (PySem.W.fnOf "open_calls" "open_calls" (defArgs s_open_calls) (defBody s_open_calls) (defScope s_open_calls) .none kV_open_calls dc_open_calls pm_open_calls an_open_calls cd_open_calls ct_open_calls), sl_open_calls⟩) (c_open_calls : PySem.W.codeIn K cd_open_calls "open_calls" = true) (k_open_calls : PySem.W.keepIn K (.ref f_open_calls) = true)
(a__law_refused : PySem.W.nsIn K mainGlobals "_law_refused" = some (some (.ref f__law_refused))) (l__law_refused : K.lookup f__law_refused = some ⟨oc__law_refused, od__law_refused, .func (PySem.W.fnOf "_law_refused" "_law_refused" (defArgs s__law_refused) (defBody s__law_refused) (defScope s__law_refused) .none kV__law_refused dc__law_refused pm__law_refused an__law_refused cd__law_refused ct__law_refused), sl__law_refused⟩) (c__law_refused : PySem.W.codeIn K cd__law_refused "_law_refused" = true) (k__law_refused : PySem.W.keepIn K (.ref f__law_refused) = true)
(a__law_right : PySem.W.nsIn K mainGlobals "_law_right" = some (some (.ref f__law_right))) (l__law_right : K.lookup f__law_right = some ⟨oc__law_right, od__law_right, .func (PySem.W.fnOf "_law_right" "_law_right" (defArgs s__law_right) (defBody s__law_right) (defScope s__law_right) .none kV__law_right dc__law_right pm__law_right an__law_right cd__law_right ct__law_right), sl__law_right⟩) (c__law_right : PySem.W.codeIn K cd__law_right "_law_right" = true) (k__law_right : PySem.W.keepIn K (.ref f__law_right) = true)
(a_law : PySem.W.nsIn K mainGlobals "law" = some (some (.ref f_law))) (l_law : K.lookup f_law = some ⟨oc_law, od_law, .func (PySem.W.fnOf "law" "law" (defArgs s_law) (defBody s_law) (defScope s_law) .none kV_law dc_law pm_law an_law cd_law ct_law), sl_law⟩) (c_law : PySem.W.codeIn K cd_law "law" = true) (k_law : PySem.W.keepIn K (.ref f_law) = true)
(n_InvalidLog : PySem.W.nsIn K mainGlobals "InvalidLog" = some (some (.ref C_InvalidLog)))
(eq_InvalidLog : PySem.W.excIn K C_InvalidLog [.type "ValueError", .type "Exception", .type "BaseException", .type "object"] "ValueError.__new__" = true) (ep_InvalidLog : PySem.W.keepIn K (.ref C_InvalidLog) = true) (es_InvalidLog : PySem.W.subIn K (.ref C_InvalidLog) (.type "BaseException") = some true) (et_InvalidLog : PySem.W.typeIn K (.ref C_InvalidLog) = some (.type "type")) (ej_InvalidLog : PySem.W.isClsIn K C_InvalidLog = true)
(x_InvalidLog_InvalidLog : PySem.W.subIn K (.ref C_InvalidLog) (.ref C_InvalidLog) = some true)
(z_abs : PySem.W.nsIn K mainGlobals "abs" = some none)
(z_all : PySem.W.nsIn K mainGlobals "all" = some none)
(z_bool : PySem.W.nsIn K mainGlobals "bool" = some none)
(z_int : PySem.W.nsIn K mainGlobals "int" = some none)
(z_isinstance : PySem.W.nsIn K mainGlobals "isinstance" = some none)
(z_len : PySem.W.nsIn K mainGlobals "len" = some none)
(z_list : PySem.W.nsIn K mainGlobals "list" = some none)
(z_max : PySem.W.nsIn K mainGlobals "max" = some none)
(z_min : PySem.W.nsIn K mainGlobals "min" = some none)
(z_range : PySem.W.nsIn K mainGlobals "range" = some none)
(z_repr : PySem.W.nsIn K mainGlobals "repr" = some none)
(z_str : PySem.W.nsIn K mainGlobals "str" = some none)
(z_tuple : PySem.W.nsIn K mainGlobals "tuple" = some none)
(y_LARGEST_SIZE : PySem.W.nsIn K mainGlobals "LARGEST_SIZE" = some (some (.int 4 t_LARGEST_SIZE)))
(y_MOST_LETTERS : PySem.W.nsIn K mainGlobals "MOST_LETTERS" = some (some (.int 8 t_MOST_LETTERS))) (LT : ∀ (cov : Value → Value → Option Bool) (E_InvalidLog : Value) (_ : cov E_InvalidLog E_InvalidLog = some true) (ns : List Int), ns.length ≤ 63 → (∀ z ∈ ns, Builtin.Int.intBits z ≤ 1048576) → F_law cov E_InvalidLog none [.scr ns] = .ok (.bl true) none) :
    ∃ (fd : FuncData) (F : FF), (∀ (s : Shared) (v : Value), BindsTo s fd ⟨[v], []⟩ [("script", v)]) ∧ (∀ ns : List Int, ns.length ≤ 63 → (∀ z ∈ ns, Builtin.Int.intBits z ≤ 1048576) → F none [.scr ns] = .ok (.bl true) none) ∧ ∀ base : Heap, K.In base → base.Ns mainGlobals mg → Sys base → FnG l.prog w K mg base 7 fa fd ["script"] (SpF K false 1 F) := by
  have e := hfa.symm.trans (PySem.W.mg_of X G a_law)
  cases e
  have g_abs := PySem.W.mg_none_of X G z_abs
  have g_all := PySem.W.mg_none_of X G z_all
  have g_bool := PySem.W.mg_none_of X G z_bool
  have g_int := PySem.W.mg_none_of X G z_int
  have g_isinstance := PySem.W.mg_none_of X G z_isinstance
  have g_len := PySem.W.mg_none_of X G z_len
  have g_list := PySem.W.mg_none_of X G z_list
  have g_max := PySem.W.mg_none_of X G z_max
  have g_min := PySem.W.mg_none_of X G z_min
  have g_range := PySem.W.mg_none_of X G z_range
  have g_repr := PySem.W.mg_none_of X G z_repr
  have g_str := PySem.W.mg_none_of X G z_str
  have g_tuple := PySem.W.mg_none_of X G z_tuple
  have i_LARGEST_SIZE := PySem.W.mg_of X G y_LARGEST_SIZE
  have i_MOST_LETTERS := PySem.W.mg_of X G y_MOST_LETTERS
  have Fn__law_urn := fun_mk (st := s__law_urn) l__law_urn c__law_urn k__law_urn
  have bd__law_urn := Fn__law_urn.binds (ps := ["script", "at"]) fun _ _ _ _ _ _ us hl => match us, hl with | [_, _], _ => rfl
  have Fn__law_take := fun_mk (st := s__law_take) l__law_take c__law_take k__law_take
  have bd__law_take := Fn__law_take.binds (ps := ["urn", "total"]) fun _ _ _ _ _ _ us hl => match us, hl with | [_, _], _ => rfl
  have Fn__law_name := fun_mk (st := s__law_name) l__law_name c__law_name k__law_name
  have bd__law_name := Fn__law_name.binds (ps := ["urn"]) fun _ _ _ _ _ _ us hl => match us, hl with | [_], _ => rfl
  have Fn__law_names := fun_mk (st := s__law_names) l__law_names c__law_names k__law_names
  have bd__law_names := Fn__law_names.binds (ps := ["urn", "many"]) fun _ _ _ _ _ _ us hl => match us, hl with | [_, _], _ => rfl
  have Fn__law_one := fun_mk (st := s__law_one) l__law_one c__law_one k__law_one
  have bd__law_one := Fn__law_one.binds (ps := ["urn", "items"]) fun _ _ _ _ _ _ us hl => match us, hl with | [_, _], _ => rfl
  have Fn__law_log := fun_mk (st := s__law_log) l__law_log c__law_log k__law_log
  have bd__law_log := Fn__law_log.binds (ps := ["urn"]) fun _ _ _ _ _ _ us hl => match us, hl with | [_], _ => rfl
  have Fn_is_name := fun_mk (st := s_is_name) l_is_name c_is_name k_is_name
  have bd_is_name := Fn_is_name.binds (ps := ["value"]) fun _ _ _ _ _ _ us hl => match us, hl with | [_], _ => rfl
  have Fn_is_number := fun_mk (st := s_is_number) l_is_number c_is_number k_is_number
  have bd_is_number := Fn_is_number.binds (ps := ["value", "size"]) fun _ _ _ _ _ _ us hl => match us, hl with | [_, _], _ => rfl
  have Fn_is_line := fun_mk (st := s_is_line) l_is_line c_is_line k_is_line
  have bd_is_line := Fn_is_line.binds (ps := ["value"]) fun _ _ _ _ _ _ us hl => match us, hl with | [_], _ => rfl
  have Fn__law_open_in := fun_mk (st := s__law_open_in) l__law_open_in c__law_open_in k__law_open_in
  have bd__law_open_in := Fn__law_open_in.binds (ps := ["value"]) fun _ _ _ _ _ _ us hl => match us, hl with | [_], _ => rfl
  have Fn__law_near := fun_mk (st := s__law_near) l__law_near c__law_near k__law_near
  have bd__law_near := Fn__law_near.binds (ps := ["urn", "log"]) fun _ _ _ _ _ _ us hl => match us, hl with | [_, _], _ => rfl
  have Fn__calls_of := fun_mk (st := s__calls_of) l__calls_of c__calls_of k__calls_of
  have bd__calls_of := Fn__calls_of.binds (ps := ["log"]) fun _ _ _ _ _ _ us hl => match us, hl with | [_], _ => rfl
  have Fn_is_log := fun_mk (st := s_is_log) l_is_log c_is_log k_is_log
  have bd_is_log := Fn_is_log.binds (ps := ["value"]) fun _ _ _ _ _ _ us hl => match us, hl with | [_], _ => rfl
  have Fn_open_calls := fun_mk (st := s_open_calls) l_open_calls c_open_calls k_open_calls
  have bd_open_calls := Fn_open_calls.binds (ps := ["log"]) fun _ _ _ _ _ _ us hl => match us, hl with | [_], _ => rfl
  have Fn__law_refused := fun_mk (st := s__law_refused) l__law_refused c__law_refused k__law_refused
  have bd__law_refused := Fn__law_refused.binds (ps := ["value"]) fun _ _ _ _ _ _ us hl => match us, hl with | [_], _ => rfl
  have Fn__law_right := fun_mk (st := s__law_right) l__law_right c__law_right k__law_right
  have bd__law_right := Fn__law_right.binds (ps := ["urn"]) fun _ _ _ _ _ _ us hl => match us, hl with | [_], _ => rfl
  have Fn_law := fun_mk (st := s_law) l_law c_law k_law
  have bd_law := Fn_law.binds (ps := ["script"]) fun _ _ _ _ _ _ us hl => match us, hl with | [_], _ => rfl
  have e_InvalidLog : Er K mg "InvalidLog" (.ref C_InvalidLog) := ⟨C_InvalidLog, rfl, PySem.W.mg_of X G n_InvalidLog, eq_InvalidLog, ep_InvalidLog, es_InvalidLog, et_InvalidLog⟩
  refine ⟨PySem.W.fnOf "law" "law" (defArgs s_law) (defBody s_law) (defScope s_law) .none kV_law dc_law pm_law an_law cd_law ct_law, (F_law (PySem.W.exmOne K) (.ref C_InvalidLog)), fun s v => .of_eq rfl, LT (PySem.W.exmOne K) (.ref C_InvalidLog) (exm_sub es_InvalidLog ej_InvalidLog et_InvalidLog x_InvalidLog_InvalidLog), fun base _ _ sy => ?_⟩
  have D__law_urn := df__law_urn (P := l.prog) (w := w) sy Fn__law_urn (PySem.W.mg_of X G a__law_urn) bd__law_urn g_len g_int g_abs g_max
  have D__law_take := df__law_take (P := l.prog) (w := w) sy Fn__law_take (PySem.W.mg_of X G a__law_take) bd__law_take g_int
  have D__law_name := df__law_name (P := l.prog) (w := w) sy Fn__law_name (PySem.W.mg_of X G a__law_name) bd__law_name D__law_take g_range
  have D__law_names := df__law_names (P := l.prog) (w := w) sy Fn__law_names (PySem.W.mg_of X G a__law_names) bd__law_names D__law_name g_range
  have D__law_one := df__law_one (P := l.prog) (w := w) sy Fn__law_one (PySem.W.mg_of X G a__law_one) bd__law_one D__law_take g_len
  have D__law_log := df__law_log (P := l.prog) (w := w) sy Fn__law_log (PySem.W.mg_of X G a__law_log) bd__law_log D__law_names D__law_take D__law_one g_range g_len g_tuple
  have D_is_name := df_is_name (P := l.prog) (w := w) sy Fn_is_name (PySem.W.mg_of X G a_is_name) bd_is_name g_isinstance g_str g_len i_MOST_LETTERS
  have D_is_number := df_is_number (P := l.prog) (w := w) sy Fn_is_number (PySem.W.mg_of X G a_is_number) bd_is_number g_isinstance g_int g_bool
  have D_is_line := df_is_line (P := l.prog) (w := w) sy Fn_is_line (PySem.W.mg_of X G a_is_line) bd_is_line D_is_name D_is_number g_isinstance g_tuple g_len i_LARGEST_SIZE
  have D__law_open_in := df__law_open_in (P := l.prog) (w := w) sy Fn__law_open_in (PySem.W.mg_of X G a__law_open_in) bd__law_open_in D_is_line g_isinstance g_tuple g_range g_len
  have D__law_near := df__law_near (P := l.prog) (w := w) sy Fn__law_near (PySem.W.mg_of X G a__law_near) bd__law_near D__law_take D__law_name D__law_one D__law_open_in g_len g_list g_tuple
  have D__calls_of := df__calls_of (P := l.prog) (w := w) sy Fn__calls_of (PySem.W.mg_of X G a__calls_of) bd__calls_of D_is_line g_isinstance g_tuple g_all
  have D_is_log := df_is_log (P := l.prog) (w := w) sy Fn_is_log (PySem.W.mg_of X G a_is_log) bd_is_log D__calls_of
  have D_open_calls := df_open_calls (P := l.prog) (w := w) sy Fn_open_calls (PySem.W.mg_of X G a_open_calls) bd_open_calls e_InvalidLog D__calls_of g_tuple
  have D__law_refused := df__law_refused (P := l.prog) (w := w) sy Fn__law_refused (PySem.W.mg_of X G a__law_refused) bd__law_refused e_InvalidLog D_open_calls
  have D__law_right := df__law_right (P := l.prog) (w := w) sy Fn__law_right (PySem.W.mg_of X G a__law_right) bd__law_right e_InvalidLog D__law_log D__law_near D__law_open_in D_is_log D__law_refused D_open_calls g_repr g_tuple
  have D_law := df_law (P := l.prog) (w := w) sy Fn_law (PySem.W.mg_of X G a_law) bd_law e_InvalidLog D__law_urn D__law_right D_is_log D_open_calls g_range g_max g_min g_len g_tuple
  exact D_law.fn
end VS
namespace VS
open PySem PySem.Spec PyProof.Rows L2
section
variable {cov : Value → Value → Option Bool} {E_InvalidLog : Value}
theorem take_on {n : Nat} {d : D} {t : Int} {q : D → D → Prop} {r : Ex → D → Prop} (hU : Urn n d) (ht : 0 < t) (ht2 : t < 2 ^ 62) (hn : n ≤ 2 ^ 30) (h : ∀ (x : Int) (d' : D), 0 ≤ x → x < t → Urn (n + 1) d' → q (.int x) d') : onU (F__law_take (some d) [.int t]) q r := by
  obtain ⟨a, s, c, rfl, a0, s0, s1, c0, c1⟩ := hU
  have cdiv : CDivW a t := cdivS ht ht2
  refine onU_run rfl ?_
  unfold M__law_take
  simp [cdiv, ht]
  have mm : ∀ {x y : Int}, 0 < y → 0 ≤ x % y ∧ x % y < y := fun {x y} hy => ⟨Int.emod_nonneg _ (by omega), Int.emod_lt_of_pos _ hy⟩
  split
  · refine h _ _ (mm ht).1 (mm ht).2 ⟨_, _, _, rfl, ?_, s0, s1, c0, by omega⟩
    exact Int.ediv_nonneg a0 (Int.le_of_lt ht)
  · have h1 := mm (x := s + 1299709 * (c + 1)) (y := 2305843009213693951) (by decide)
    generalize (s + 1299709 * (c + 1)) % 2305843009213693951 = x1 at h1 ⊢
    have h2 := mm (x := x1 * x1 + 7919 * (c + 1)) (y := 1000000000039) (by decide)
    generalize (x1 * x1 + 7919 * (c + 1)) % 1000000000039 = x2 at h2 ⊢
    have h3 := mm (x := x2 * x2 + x1) (y := 998244353) (by decide)
    generalize (x2 * x2 + x1) % 998244353 = x3 at h3 ⊢
    refine ⟨cmulS (by omega) (by omega) (by omega) (by omega), cmulS (by omega) (by omega) (by omega) (by omega), cmulS (by omega) (by omega) (by omega) (by omega), cmulS (by omega) (by omega) (by omega) (by omega), cdivS (by omega) (by omega), ?_⟩
    exact h _ _ (mm ht).1 (mm ht).2 ⟨_, _, _, rfl, a0, s0, s1, by omega, by omega⟩

end
end VS

namespace VS
open PySem PySem.Spec PyProof.Rows L2
section
variable {cov : Value → Value → Option Bool} {E_InvalidLog : Value}
theorem one_on {n : Nat} {d : D} {xs : List D} {q : D → D → Prop} {r : Ex → D → Prop} (hU : Urn n d) (h0 : xs ≠ []) (hl : xs.length ≤ 10 ^ 9) (hn : n ≤ 2 ^ 30) (h : ∀ (x d' : D), x ∈ xs → Urn (n + 1) d' → q x d') : onU (F__law_one (some d) [.lst xs]) q r := by
  refine onU_run rfl ?_
  unfold M__law_one
  have hp : 0 < xs.length := List.length_pos_iff.mpr h0
  simp
  refine take_on hU (by omega) (by omega) hn fun x d' x0 x1 hU' => ?_
  simp
  obtain ⟨j, rfl⟩ := Int.eq_ofNat_of_zero_le x0
  have hj : j < xs.length := by omega
  rw [atI_nat (List.getElem?_eq_getElem hj)]
  simp
  exact h _ _ (List.getElem_mem hj) hU'

end
end VS

namespace VS
open PySem PySem.Spec PyProof.Rows L2
section
variable {cov : Value → Value → Option Bool} {E_InvalidLog : Value}
theorem abc_cps : (Str.ofString "abcdefghijklmnopqrstuvwxyz").cps.toList = List.range' 97 26 := by decide +kernel
theorem abc_len : (Str.ofString "abcdefghijklmnopqrstuvwxyz").length = 26 := by decide +kernel
def Let (c : Nat) : Prop := 97 ≤ c ∧ c ≤ 122
theorem abc_at {j : Nat} (h : j < 26) : atI (Str.ofString "abcdefghijklmnopqrstuvwxyz").cps.toList (j : Int) = some (97 + j) := by
  rw [abc_cps]
  refine atI_nat ?_
  rw [List.getElem?_range' h]
  simp
theorem empty_tx : (Str.ofString "") = tx [] := by decide +kernel
theorem upTo_get {lo : Int} {n i : Nat} {d : D} (h : (upTo lo n)[i]? = some d) : i < n ∧ d = .int (lo + i) := by
  unfold upTo at h
  rw [List.getElem?_map] at h
  cases e : (List.range n)[i]? with
  | none => rw [e] at h; cases h
  | some j =>
    rw [e] at h
    obtain ⟨h1, h2⟩ := List.getElem?_eq_some_iff.mp e
    rw [List.getElem_range] at h2
    subst h2
    cases h
    rw [List.length_range] at h1
    exact ⟨h1, rfl⟩
theorem upTo_len {lo : Int} {n : Nat} : (upTo lo n).length = n := by unfold upTo; simp
theorem name_on {n : Nat} {d : D} {q : D → D → Prop} {r : Ex → D → Prop} (hU : Urn n d) (hn : n ≤ 2 ^ 29) (h : ∀ (x : List Nat) (d' : D), 1 ≤ x.length → x.length ≤ 8 → (∀ c ∈ x, Let c) → Urn (n + 9) d' → q (.str (tx x)) d') : onU (F__law_name (some d) []) q r := by
  refine onU_run rfl ?_
  unfold M__law_name
  simp
  refine take_on hU (by decide) (by decide) (by omega) fun m d1 m0 m1 hU1 => ?_
  simp
  refine ⟨by omega, ?_⟩
  refine lc_inv (I := fun i acc ρ => ∃ d' x, ρ = [.io d', .dat (.str (Str.ofString "abcdefghijklmnopqrstuvwxyz")), .no] ∧ Urn (n + 1 + i) d' ∧ acc = sgs x ∧ x.length = i ∧ ∀ c ∈ x, Let c) ⟨d1, [], rfl, hU1, rfl, rfl, fun c hc => (by cases hc)⟩ ?_ ?_
  · rintro acc ρ' ⟨d', x, rfl, hU', rfl, hx, hc⟩
    rw [upTo_len] at hx hU'
    rw [dJoin_sgs empty_tx (by omega)]
    simp
    exact h x d' (by omega) (by omega) hc (hU'.mono (by omega))
  · rintro i dd acc ρ' e ⟨d', x, rfl, hU', rfl, hx, hc⟩
    obtain ⟨hi, rfl⟩ := upTo_get e
    refine ⟨_, rfl, ?_⟩
    simp
    refine take_on hU' (by decide) (by decide) (by omega) fun j d2 j0 j1 hU2 => ?_
    obtain ⟨j, rfl⟩ := Int.eq_ofNat_of_zero_le j0
    have hj : j < 26 := by omega
    have sz : (26 : Nat) ≤ sizeLine := by decide
    have sz2 : (sgs x).length < sizeLine := by
      rw [sgs_len]
      have : (10 : Nat) < sizeLine := by decide
      omega
    simp [abc_len, abc_at hj, sz, sz2]
    refine ⟨hU2.mono (by omega), x ++ [97 + j], sgs_snoc, by simp; omega, fun c hc' => ?_⟩
    rcases List.mem_append.mp hc' with z | z
    · exact hc c z
    · have : c = 97 + j := by simpa using z
      unfold Let
      omega

end
end VS

namespace VS
open PySem PySem.Spec PyProof.Rows L2
section
variable {cov : Value → Value → Option Bool} {E_InvalidLog : Value}
theorem lt1 {a b : Nat} : ([a] : List Nat) < [b] ↔ a < b := by
  constructor
  · intro h
    cases h with
    | cons h => cases h
    | rel h => exact h
  · intro h
    exact .rel h
theorem le1 {a b : Nat} : ([a] : List Nat) ≤ [b] ↔ a ≤ b := by
  show ¬ ([b] < [a]) ↔ _
  rw [lt1]
  omega
def okc (c : Nat) : Bool := decide (97 ≤ c) && decide (c ≤ 122)
def blL (l : List Nat) : List D := l.map fun c => D.bl (okc c)
theorem blL_snoc {l : List Nat} {c : Nat} {b : Bool} (h : b = okc c) : blL l ++ [.bl b] = blL (l ++ [c]) := by unfold blL; rw [h]; simp
theorem blL_all {l : List Nat} : dAll [.lst (blL l)] = some (.bl (l.all okc)) := by
  have e : blL l = (l.map okc).map D.bl := by unfold blL; rw [List.map_map]; rfl
  unfold dAll
  dsimp only
  have e2 : ∀ bs : List Bool, bools (bs.map D.bl) = some bs := by
    intro bs
    induction bs with
    | nil => rfl
    | cons b bs ih => show (bools (bs.map D.bl)).map (b :: ·) = _; rw [ih]; rfl
  rw [e, e2, Option.map_some, List.all_map]
  rfl
theorem blL_len {l : List Nat} : (blL l).length = l.length := by unfold blL; simp
theorem take_snoc {l : List Nat} {i c : Nat} (h : l[i]? = some c) : l.take (i + 1) = l.take i ++ [c] := by rw [List.take_add_one, h]; rfl
theorem cps_at {x : Str} {i c : Nat} (h : x.cps[i]? = some c) : x.cps.toList[i]? = some c := by simpa using h
theorem signs_len {x : Str} : (signs x).length = x.cps.toList.length := by unfold signs; simp
theorem cps_len {x : Str} : x.cps.toList.length = x.length := by unfold Str.length; simp
def isName : D → Bool
  | .str x => decide (1 ≤ x.length) && decide (x.length ≤ 8) && x.cps.toList.all okc
  | _ => false
theorem a_cps : (Str.ofString "a").cps.toList = [97] := by decide +kernel
theorem z_cps : (Str.ofString "z").cps.toList = [122] := by decide +kernel
theorem isName_on {m j : Nat} {d : D} {q : D → Prop} {r : Ex → Prop} (hg : Gd m j d) (hm : m ≤ 300000) (h : q (.bl (isName d))) : onF (F_is_name none [d]) q r := by
  refine onF_run rfl ?_
  unfold M_is_name
  have sz : 300000 ≤ sizeLine := by decide
  cases d with
  | str x =>
    have hl := gd_strlen hg
    have hl' : x.length ≤ sizeLine := by omega
    have ne : ∀ b, isName (.str x) = b → q (.bl b) := fun b e => e ▸ h
    have lw := low_txt x
    simp [dIsi, dTy, isA, hl']
    by_cases h1 : 1 ≤ x.length
    · by_cases h2 : x.length ≤ 8
      · rw [if_pos (by omega), if_pos (by omega)]
        have e9 : isName (.str x) = (Txt.isascii x && (Txt.isalpha x && Txt.islower x)) := by
          rw [lw]
          show (decide (1 ≤ x.length) && decide (x.length ≤ 8) && x.cps.toList.all okc) = (decide (0 < x.cps.toList.length) && x.cps.toList.all okc)
          rw [cps_len, decide_eq_true h1, decide_eq_true h2, decide_eq_true (show 0 < x.length from h1)]
          rfl
        have n9 : ∀ b, (Txt.isascii x && (Txt.isalpha x && Txt.islower x)) = b → q (.bl b) := fun b e => ne b (e9.trans e)
        cases ea : Txt.isascii x with
        | false => exact n9 _ (by rw [ea]; rfl)
        | true =>
          cases eb : Txt.isalpha x with
          | false => exact n9 _ (by rw [ea, eb]; rfl)
          | true => exact n9 _ (by rw [ea, eb]; rfl)
      · rw [if_pos (by omega), if_neg (by omega)]
        exact ne _ (by simp [isName, h2])
    · rw [if_neg (by omega)]
      exact ne _ (by simp [isName]; omega)
  | obj _ _ => obtain ⟨t, e⟩ := gd_ty hg; cases e
  | kls _ => obtain ⟨t, e⟩ := gd_ty hg; cases e
  | err _ => obtain ⟨t, e⟩ := gd_ty hg; cases e
  | exn _ => obtain ⟨t, e⟩ := gd_ty hg; cases e
  | exc _ _ => obtain ⟨t, e⟩ := gd_ty hg; cases e
  | dtk _ => obtain ⟨t, e⟩ := gd_ty hg; cases e
  | ktu _ => obtain ⟨t, e⟩ := gd_ty hg; cases e
  | _ => simp [dIsi, dTy, isA]; exact h

end
end VS

namespace VS
open PySem PySem.Spec PyProof.Rows L2
section
variable {cov : Value → Value → Option Bool} {E_InvalidLog : Value}
def isNum (d : D) (n : Int) : Bool := match d with
  | .int i => decide (0 ≤ i) && decide (i < n)
  | _ => false
theorem isNum_on {m j : Nat} {d : D} {n : Int} {q : D → Prop} {r : Ex → Prop} (hg : Gd m j d) (h : q (.bl (isNum d n))) : onF (F_is_number none [d, .int n]) q r := by
  refine onF_run rfl ?_
  unfold M_is_number
  cases d with
  | obj _ _ => obtain ⟨t, e⟩ := gd_ty hg; cases e
  | kls _ => obtain ⟨t, e⟩ := gd_ty hg; cases e
  | err _ => obtain ⟨t, e⟩ := gd_ty hg; cases e
  | exn _ => obtain ⟨t, e⟩ := gd_ty hg; cases e
  | exc _ _ => obtain ⟨t, e⟩ := gd_ty hg; cases e
  | dtk _ => obtain ⟨t, e⟩ := gd_ty hg; cases e
  | ktu _ => obtain ⟨t, e⟩ := gd_ty hg; cases e
  | scr _ => obtain ⟨p, e, _⟩ := hg; unfold pr at e; cases e
  | int i =>
    simp [dIsi, dTy, isA]
    by_cases h0 : 0 ≤ i
    · rw [if_pos h0]; simpa [isNum, h0] using h
    · rw [if_neg h0]; simpa [isNum, h0] using h
  | _ => simp [dIsi, dTy, isA]; exact h

end
end VS

namespace VS
open PySem PySem.Spec PyProof.Rows L2
section
variable {cov : Value → Value → Option Bool} {E_InvalidLog : Value}
def isW (ws : List Str) (d : D) : Bool := match d with
  | .str x => decide (x ∈ ws)
  | _ => false
def isLine : D → Bool
  | .tup [w, n] => isName n && isW ["enter", "leave", "say"] w
  | .tup [w, n, k] => isName n && (isW ["ask", "say"] w && isNum k 4)
  | _ => false
theorem dInW {m j : Nat} {d : D} {ws : List Str} (hg : Gd m j d) : dIn d (.tup (ws.map D.str)) = some (.bl (isW ws d)) ∧ dIn d (.lst (ws.map D.str)) = some (.bl (isW ws d)) := by
  have e : dInL (ws.map D.str) d = some (isW ws d) := by
    unfold dInL
    rw [txts_map]
    cases d with
    | obj _ _ => obtain ⟨t, e⟩ := gd_ty hg; cases e
    | kls _ => obtain ⟨t, e⟩ := gd_ty hg; cases e
    | err _ => obtain ⟨t, e⟩ := gd_ty hg; cases e
    | exn _ => obtain ⟨t, e⟩ := gd_ty hg; cases e
    | exc _ _ => obtain ⟨t, e⟩ := gd_ty hg; cases e
    | dtk _ => obtain ⟨t, e⟩ := gd_ty hg; cases e
    | ktu _ => obtain ⟨t, e⟩ := gd_ty hg; cases e
    | scr _ => obtain ⟨p, e, _⟩ := hg; unfold pr at e; cases e
    | _ => rfl
  have ex : dInX (ws.map D.str) d = some (isW ws d) := by unfold dInX; rw [e]
  have e2 : (dInX (ws.map D.str) d).map (fun b => D.bl (b ^^ false)) = some (.bl (isW ws d)) := by rw [ex, Option.map_some, Bool.xor_false]
  exact ⟨e2, e2⟩
theorem sz9 : (9 : Nat) ≤ sizeLine := by decide
theorem isLine_on {m j : Nat} {d : D} {q : D → Prop} {r : Ex → Prop} (hg : Gd m j d) (hm : m ≤ 300000) (h : q (.bl (isLine d))) : onF (F_is_line none [d]) q r := by
  refine onF_run rfl ?_
  unfold M_is_line
  have z2 : 2 ≤ sizeLine := by have := sz9; omega
  have z3 : 3 ≤ sizeLine := by have := sz9; omega
  cases d with
  | obj _ _ => obtain ⟨t, e⟩ := gd_ty hg; cases e
  | kls _ => obtain ⟨t, e⟩ := gd_ty hg; cases e
  | err _ => obtain ⟨t, e⟩ := gd_ty hg; cases e
  | exn _ => obtain ⟨t, e⟩ := gd_ty hg; cases e
  | exc _ _ => obtain ⟨t, e⟩ := gd_ty hg; cases e
  | dtk _ => obtain ⟨t, e⟩ := gd_ty hg; cases e
  | ktu _ => obtain ⟨t, e⟩ := gd_ty hg; cases e
  | tup ds =>
    have hj : ∃ j', j = j' + 1 := by
      obtain ⟨p, e, _, _, _, h4⟩ := hg
      unfold pr at e
      cases ep : prAll ds with
      | none => rw [ep] at e; cases e
      | some ps =>
        rw [ep] at e
        cases e
        unfold PyData.depth at h4
        exact ⟨j - 1, by omega⟩
    obtain ⟨j, rfl⟩ := hj
    have gi := gd_items hg
    match ds, gi, h with
    | [], _, h => simp [dIsi, dTy, isA]; exact h
    | [a], _, h => simp [dIsi, dTy, isA]; exact h
    | [a, b], gi, h =>
      have ga := gi a (by simp)
      have gb := gi b (by simp)
      have ew := (dInW (ws := ["enter", "leave", "say"]) ga).1
      simp only [List.map_cons, List.map_nil] at ew
      simp [dIsi, dTy, isA]
      refine isName_on gb hm ?_
      cases hb : isName b with
      | true =>
        simp [z3, ew]
        simpa [isLine, hb] using h
      | false =>
        simp
        simpa [isLine, hb] using h
    | [a, b, c], gi, h =>
      have ga := gi a (by simp)
      have gb := gi b (by simp)
      have gc := gi c (by simp)
      have ew := (dInW (ws := ["ask", "say"]) ga).1
      simp only [List.map_cons, List.map_nil] at ew
      simp [dIsi, dTy, isA]
      refine isName_on gb hm ?_
      cases hb : isName b with
      | true =>
        simp [z2, ew]
        cases hw : isW ["ask", "say"] a with
        | true =>
          simp
          refine isNum_on gc ?_
          simpa [isLine, hb, hw] using h
        | false =>
          simp
          simpa [isLine, hb, hw] using h
      | false =>
        simp
        simpa [isLine, hb] using h
    | a :: b :: c :: e :: ds, _, h =>
      simp [dIsi, dTy, isA]
      have h' : q (.bl false) := h
      have l1 : (2 : Int) ≤ ds.length + 1 + 1 + 1 + 1 := by omega
      have l2 : ¬ ((ds.length : Int) + 1 + 1 + 1 + 1 ≤ 3) := by omega
      simp [l1, l2]
      exact h'
  | _ => simp [dIsi, dTy, isA]; exact h

end
end VS

namespace VS
open PySem PySem.Spec PyProof.Rows L2
section
variable {cov : Value → Value → Option Bool} {E_InvalidLog : Value}
def Asc (x : List Nat) : Prop := ∀ c ∈ x, c < 128
def Nm (d : D) : Prop := ∃ x : List Nat, d = .str (tx x) ∧ 1 ≤ x.length ∧ x.length ≤ 8 ∧ ∀ c ∈ x, Let c
theorem nm_name {nm : D} (hn : Nm nm) : isName nm = true := by
  obtain ⟨x, rfl, h1, h2, h3⟩ := hn
  have : (tx x).cps.toList.all okc = true := by
    rw [tx_cps, List.all_eq_true]
    intro c hc
    have := h3 c hc
    unfold Let at this
    unfold okc
    simp [this]
  simp [isName, tx_len, h1, h2, this]

end
end VS

namespace VS
open PySem PySem.Spec PyProof.Rows L2
section
variable {cov : Value → Value → Option Bool} {E_InvalidLog : Value}
theorem notIn_strs {x : Str} {xs : List Str} : dNotIn (.str x) (.lst (xs.map D.str)) = some (.bl (!decide (x ∈ xs))) := by
  have e : dInX (xs.map D.str) (.str x) = some (decide (x ∈ xs)) := by
    unfold dInX dInL
    rw [txts_map]
  show (dInX (xs.map D.str) (.str x)).map (fun b => D.bl (b ^^ true)) = _
  rw [e, Option.map_some, Bool.xor_true]
theorem in_strs {x : Str} {xs : List Str} : dIn (.str x) (.lst (xs.map D.str)) = some (.bl (decide (x ∈ xs))) := by
  have e : dInX (xs.map D.str) (.str x) = some (decide (x ∈ xs)) := by
    unfold dInX dInL
    rw [txts_map]
  show (dInX (xs.map D.str) (.str x)).map (fun b => D.bl (b ^^ false)) = _
  rw [e, Option.map_some, Bool.xor_false]
theorem nm_str {x : Str} (h : (decide (1 ≤ x.length) && (decide (x.length ≤ 8) && x.cps.toList.all fun c => decide (97 ≤ c ∧ c ≤ 122))) = true) : Nm (.str x) := by
  rw [Bool.and_eq_true, Bool.and_eq_true, List.all_eq_true] at h
  refine ⟨x.cps.toList, by rw [← tx_of], ?_, ?_, fun c hc => (show 97 ≤ c ∧ c ≤ 122 from of_decide_eq_true (h.2.2 c hc))⟩
  · rw [cps_len]; exact of_decide_eq_true h.1
  · rw [cps_len]; exact of_decide_eq_true h.2.1
def spares : List Str := ["qa", "qb", "qc", "qd", "qe", "qf", "qg"]
theorem spares_nd : spares.Nodup := by decide +kernel
theorem spares_nm : ∀ x ∈ spares, Nm (.str x) := by
  intro x hx
  refine nm_str ?_
  have : spares.all (fun x => decide (1 ≤ x.length) && (decide (x.length ≤ 8) && x.cps.toList.all fun c => decide (97 ≤ c ∧ c ≤ 122))) = true := by decide +kernel
  exact List.all_eq_true.mp this x hx
/-- different names -/
structure Nms (xs : List Str) : Prop where
  nd : xs.Nodup
  nm : ∀ x ∈ xs, Nm (.str x)
theorem names_on {n m : Nat} {d : D} {q : D → D → Prop} {r : Ex → D → Prop} (hU : Urn n d) (hn : n ≤ 2 ^ 28) (hm : m ≤ 6) (h : ∀ (xs : List Str) (d' : D), xs.length = m → Nms xs → Urn (n + 9 * m) d' → q (.lst (xs.map D.str)) d') : onU (F__law_names (some d) [.int m]) q r := by
  obtain ⟨mi, hmi⟩ : ∃ mi : Int, mi = m := ⟨_, rfl⟩
  rw [← hmi]
  refine onU_run rfl ?_
  unfold M__law_names
  simp [szT]
  subst hmi
  refine ⟨by omega, ?_⟩
  refine wp_for (I := fun i ρ => ∃ d' xs a3 a4 a5, ρ = [.io d', .dat (.int m), .own (.lst (xs.map D.str)), a3, a4, a5, .no] ∧ Urn (n + 9 * i) d' ∧ xs.length = i ∧ Nms xs) ⟨d, [], _, _, _, rfl, hU.mono (by omega), rfl, ⟨List.nodup_nil, fun x hx => by cases hx⟩⟩ ?_ ?_
  · rintro ρ' ⟨d', xs, a3, a4, a5, rfl, hU', hx, hN⟩
    rw [upTo_len] at hx hU'
    simp
    exact h xs d' hx hN hU'
  · rintro i dd ρ' e ⟨d', xs, a3, a4, a5, rfl, hU', hx, hN⟩
    obtain ⟨hi, rfl⟩ := upTo_get e
    simp
    refine name_on hU' (by omega) fun x d2 x0 x1 hx1 hU2 => ?_
    simp [szT]
    refine lc_pure (fun d => match d with
      | .str x => !decide (x ∈ xs)
      | _ => false) id (by simp) (fun d hd => ?_) ?_
    · have : ∃ s : Str, d = .str s := by
        simp only [List.mem_cons, List.not_mem_nil, or_false] at hd
        rcases hd with rfl | rfl | rfl | rfl | rfl | rfl | rfl <;> exact ⟨_, rfl⟩
      obtain ⟨s, rfl⟩ := this
      refine ⟨_, rfl, ?_⟩
      simp [notIn_strs]
    · rw [List.map_id]
      have nm : Nm (.str (tx x)) := ⟨x, rfl, x0, x1, hx1⟩
      have el : (List.filter (fun d => match d with
        | .str x => !decide (x ∈ xs)
        | _ => false) [D.str "qa", D.str "qb", D.str "qc", D.str "qd", D.str "qe", D.str "qf", D.str "qg"]) = (spares.filter fun x => !decide (x ∈ xs)).map D.str := by
        show List.filter _ (spares.map D.str) = _
        rw [List.filter_map]
        rfl
      have im : i < m := by omega
      obtain ⟨a, l, ea⟩ : ∃ a l, (spares.filter fun x => !decide (x ∈ xs)) = a :: l := by
        cases e : (spares.filter fun x => !decide (x ∈ xs)) with
        | cons a l => exact ⟨a, l, rfl⟩
        | nil =>
          have h1 : ∀ x ∈ spares, x ∈ xs := fun x hx => by
            have := List.filter_eq_nil_iff.mp e x hx
            simpa using this
          have := nodup_len spares_nd h1
          have : spares.length = 7 := rfl
          omega
      have ha : a ∈ spares ∧ a ∉ xs := by
        have : a ∈ (spares.filter fun x => !decide (x ∈ xs)) := by rw [ea]; simp
        rw [List.mem_filter] at this
        exact ⟨this.1, by simpa using this.2⟩
      rw [el, ea]
      have sz : xs.length < sizeLine := by have := sz16; omega
      have push : ∀ s : Str, Nm (.str s) → s ∉ xs → ∃ xs_1 : List Str, List.map D.str xs ++ [D.str s] = List.map D.str xs_1 ∧ xs_1.length = i + 1 ∧ Nms xs_1 := fun s h1 h2 => ⟨xs ++ [s], by simp, by simp [hx], ⟨by
        rw [List.nodup_append]
        exact ⟨hN.nd, by simp, fun a ha b hb => by
          have : b = s := by simpa using hb
          subst this
          exact fun e => h2 (e ▸ ha)⟩, fun y hy => by
        rcases List.mem_append.mp hy with z | z
        · exact hN.nm y z
        · have : y = s := by simpa using z
          subst this
          exact h1⟩⟩
      have hU3 : Urn (n + 9 * (i + 1)) d2 := hU2.mono (by omega)
      by_cases hin : tx x ∈ xs
      · simp [notIn_strs, hin, sz]
        obtain ⟨xs1, h1, h2, h3⟩ := push a (spares_nm a ha.1) ha.2
        exact ⟨d2, xs1, ⟨rfl, h1⟩, hU3, h2, h3⟩
      · simp [notIn_strs, hin, sz]
        obtain ⟨xs1, h1, h2, h3⟩ := push _ nm hin
        exact ⟨d2, xs1, ⟨rfl, h1⟩, hU3, h2, h3⟩

end
end VS

namespace VS
open PySem PySem.Spec PyProof.Rows L2
section
variable {cov : Value → Value → Option Bool} {E_InvalidLog : Value}
def Big (g : Int) : Prop := 0 ≤ g ∧ g < 2 ^ 2000
theorem big_mod {x y : Int} (h0 : 0 < y) (h1 : y < 2 ^ 2000) : Big (x % y) := ⟨(mod_nn h0).1, Int.lt_trans (mod_nn h0).2 h1⟩
theorem urn_on {ns : List Int} {i : Nat} {q : D → Prop} {r : Ex → Prop} (hi : i ≤ 100) (h : ∀ u : D, Urn 0 u → q u) : onF (F__law_urn none [.scr ns, .int i]) q r := by
  refine onF_run rfl ?_
  unfold M__law_urn
  have sz : (100 : Nat) ≤ sizeLine := by decide
  have z3 : (3 : Nat) ≤ sizeLine := by omega
  have p1 : CPowW 10 60 := by decide
  have p2 : CPowW (10 ^ 60) 9 := by decide
  have p3 : CPowW 10 17 := by decide
  refine wp_seq (P := fun ρ' => ∃ c : Int, ρ' = [.dat (.scr ns), .dat (.int i), .dat (.int c), .no, .no]) ?_ ?_
  · simp
    by_cases hl : i < ns.length
    · rw [if_pos hl, atI_nat (List.getElem?_eq_getElem hl)]
      simp
    · rw [if_neg hl]
      exact cmulS (by decide) (by decide) (by omega) (by omega)
  · rintro ρ' ⟨c, rfl⟩
    refine wp_seq (P := fun ρ' => ∃ g : Int, Big g ∧ ρ' = [.dat (.scr ns), .dat (.int i), .dat (.int c), .dat (.int g), .no]) ?_ ?_
    · simp
      exact ⟨p1, p2, big_mod (by decide) (by decide)⟩
    · rintro ρ' ⟨g, ⟨g0, g1⟩, rfl⟩
      simp
      have e1 : ∀ b : Bool, (if b = true then (1 : Int) else 0) = 0 ∨ (if b = true then (1 : Int) else 0) = 1 := fun b => by cases b <;> simp
      have m1 : CMulW g 104651 := cmul g0 g1 (by decide) (by decide)
      have m2 : CMulW 15331 i := cmulS (by decide) (by decide) (by omega) (by omega)
      have m3 : CMulW 43 (if c < 0 then 1 else 0) := by split <;> decide
      refine ⟨m1, m2, m3, p3, z3, h _ ⟨_, _, _, rfl, ?_, (mod_nn (by decide)).1, Int.lt_trans (mod_nn (by decide)).2 (by decide), by omega, by omega⟩⟩
      split <;> omega

end
end VS

namespace VS
open PySem PySem.Spec PyProof.Rows L2
section
variable {cov : Value → Value → Option Bool} {E_InvalidLog : Value}
/-! ### logs by their form -/
def wdOf : D → Str
  | .tup (.str w :: _) => w
  | _ => tx []
def nmOf : D → Str
  | .tup (_ :: .str x :: _) => x
  | _ => tx []
theorem line_shape {l : D} (h : isLine l = true) : ∃ w n rest, l = .tup (.str w :: .str n :: rest) ∧ rest.length ≤ 1 ∧ wdOf l = w ∧ nmOf l = n := by
  unfold isLine at h
  split at h
  · rename_i w n
    rw [Bool.and_eq_true] at h
    cases n with
    | str x => cases w with
      | str y => exact ⟨y, x, [], rfl, by simp, rfl, rfl⟩
      | _ => exact absurd h.2 (by simp [isW])
    | _ => exact absurd h.1 (by simp [isName])
  · rename_i w n k
    rw [Bool.and_eq_true, Bool.and_eq_true] at h
    cases n with
    | str x => cases w with
      | str y => exact ⟨y, x, [k], rfl, by simp, rfl, rfl⟩
      | _ => exact absurd h.2.1 (by simp [isW])
    | _ => exact absurd h.1 (by simp [isName])
  · cases h
def stepC (c : List Str) (l : D) : List Str := if wdOf l = "enter" then c ++ [nmOf l] else if wdOf l = "leave" then c.dropLast else c
def go : List Str → List D → Option (List Str)
  | c, [] => some c
  | c, l :: ls => if c = [] ∨ (wdOf l = "leave" ∧ c.getLast? ≠ some (nmOf l)) then none else go (stepC c l) ls
def spec : D → Option (List Str)
  | .tup (l :: ls) => if (l :: ls).all isLine = true ∧ wdOf l = "enter" then go [nmOf l] ls else none
  | _ => none
def res : Option (List Str) → D
  | none => .non
  | some c => .lst (c.map D.str)
theorem cut1 {l : D} {ls : List D} : cutD (l :: ls) (some 1) none = ls := by
  unfold cutD
  rw [show HT.sIx (l :: ls).length 0 (some 1) = min 1 (l :: ls).length from HT.sIx_nat (l :: ls).length 0 1, HT.sIx_none]
  rw [show min 1 (l :: ls).length = 1 by rw [List.length_cons]; omega]
  show List.take ((l :: ls).length - 1) ls = ls
  rw [List.length_cons, Nat.add_sub_cancel, List.take_length]
theorem gd_tup_len {m j : Nat} {ds : List D} (h : Gd m j (.tup ds)) : ds.length ≤ m := by
  obtain ⟨p, e, _, _, h3, _⟩ := h
  unfold pr at e
  cases ep : prAll ds with
  | none => rw [ep] at e; cases e
  | some ps =>
    rw [ep] at e; cases e
    unfold PyData.weight at h3
    have gen : ∀ (ds : List D) (ps : List PyData), prAll ds = some ps → ds.length ≤ PyData.weightAll ps := by
      intro ds
      induction ds with
      | nil => intro ps _; simp
      | cons d ds ih =>
        intro ps e
        unfold prAll at e
        cases e1 : pr d with
        | none => rw [e1] at e; cases e
        | some p =>
          cases e2 : prAll ds with
          | none => rw [e1, e2] at e; cases e
          | some ps' =>
            rw [e1, e2] at e; cases e
            have := ih ps' e2
            unfold PyData.weightAll
            rw [List.length_cons]
            omega
    have := gen ds ps ep
    omega
theorem gd_depth {m j : Nat} {ds : List D} (h : Gd m j (.tup ds)) : ∃ i, j = i + 1 := by
  obtain ⟨p, e, _, _, _, h4⟩ := h
  unfold pr at e
  cases ep : prAll ds with
  | none => rw [ep] at e; cases e
  | some ps =>
    rw [ep] at e; cases e
    unfold PyData.depth at h4
    exact ⟨j - 1, by omega⟩
def blsL (l : List D) : List D := l.map fun d => D.bl (isLine d)
theorem blsL_snoc {l : List D} {d : D} : blsL l ++ [.bl (isLine d)] = blsL (l ++ [d]) := by unfold blsL; simp
theorem blsL_all {l : List D} : dAll [.lst (blsL l)] = some (.bl (l.all isLine)) := by
  have e : blsL l = (l.map isLine).map D.bl := by unfold blsL; rw [List.map_map]; rfl
  have e2 : ∀ bs : List Bool, bools (bs.map D.bl) = some bs := by
    intro bs
    induction bs with
    | nil => rfl
    | cons b bs ih => show (bools (bs.map D.bl)).map (b :: ·) = _; rw [ih]; rfl
  unfold dAll
  dsimp only
  rw [e, e2, Option.map_some, List.all_map]
  rfl
theorem takeD_snoc {α : Type} {l : List α} {i : Nat} {c : α} (h : l[i]? = some c) : l.take (i + 1) = l.take i ++ [c] := by rw [List.take_add_one, h]; rfl
theorem dropD {α : Type} {l : List α} {i : Nat} {c : α} (h : l[i]? = some c) : l.drop i = c :: l.drop (i + 1) := drop_get h
theorem hPop_snoc {xs : List D} {x : D} : hPop (xs ++ [x]) = some (x, xs) := by
  unfold hPop
  have e : (xs ++ [x])[(xs ++ [x]).length - 1]? = some x := by simp
  rw [e]
  simp
theorem atI_snoc {c : List Str} {z : Str} : atI ((c ++ [z]).map D.str) (-1) = some (.str z) := by
  rw [List.map_append, List.map_singleton]
  exact atI_last _ _
theorem le_ne : ¬ Str.ofString "leave" = Str.ofString "enter" := by decide +kernel
theorem en_ne : ¬ Str.ofString "enter" = Str.ofString "leave" := by decide +kernel
theorem callsOf_on {m j : Nat} {d : D} {q : D → Prop} {r : Ex → Prop} (hg : Gd m j d) (hm : m ≤ 300000) (h : q (res (spec d))) : onF (F__calls_of none [d]) q r := by
  refine onF_run rfl ?_
  unfold M__calls_of
  have sz : 1000000 ≤ sizeLine := by decide
  cases d with
  | obj _ _ => obtain ⟨t, e⟩ := gd_ty hg; cases e
  | kls _ => obtain ⟨t, e⟩ := gd_ty hg; cases e
  | err _ => obtain ⟨t, e⟩ := gd_ty hg; cases e
  | exn _ => obtain ⟨t, e⟩ := gd_ty hg; cases e
  | exc _ _ => obtain ⟨t, e⟩ := gd_ty hg; cases e
  | dtk _ => obtain ⟨t, e⟩ := gd_ty hg; cases e
  | ktu _ => obtain ⟨t, e⟩ := gd_ty hg; cases e
  | tup ds =>
    obtain ⟨j, rfl⟩ := gd_depth hg
    have gi := gd_items hg
    have gl := gd_tup_len hg
    refine wp_seq (P := fun ρ' => ρ' = [.dat (.tup ds), .no, .no] ∧ ds.all isLine = true) ?_ ?_
    · simp [dIsi, dTy, isA]
      refine lc_inv (I := fun i acc ρ => ρ = [.dat (.tup ds), .no, .no] ∧ acc = blsL (ds.take i)) ⟨rfl, rfl⟩ ?_ ?_
      · rintro acc ρ' ⟨rfl, rfl⟩
        rw [List.take_length, blsL_all]
        simp
        intro x hx hf
        have es : spec (.tup ds) = none := by
          cases ds with
          | nil => rfl
          | cons l ls =>
            show (if (l :: ls).all isLine = true ∧ wdOf l = "enter" then go [nmOf l] ls else none) = none
            rw [if_neg]
            intro z
            rw [List.all_eq_true] at z
            rw [z.1 x hx] at hf
            cases hf
        rw [es] at h
        exact h
      · rintro i x acc ρ' e ⟨rfl, rfl⟩
        refine ⟨_, rfl, ?_⟩
        have hx := List.mem_of_getElem? e
        have hz : (blsL (ds.take i)).length < sizeLine := by
          unfold blsL
          rw [List.length_map, List.length_take]
          omega
        simp [hz]
        refine isLine_on (gi x hx) hm ?_
        rw [takeD_snoc e]
        exact blsL_snoc
    · rintro ρ' ⟨rfl, ha⟩
      cases ds with
      | nil => simp; exact h
      | cons l ls =>
        have hl : isLine l = true := by rw [List.all_eq_true] at ha; exact ha l (by simp)
        obtain ⟨w, n, rest, rfl, hr, ew, en⟩ := line_shape hl
        have z1 : (1 : Nat) ≤ sizeLine := by omega
        by_cases hw : w = "enter"
        · subst hw
          have es : spec (.tup (.tup (.str "enter" :: .str n :: rest) :: ls)) = go [n] ls := by
            show (if (_ :: ls).all isLine = true ∧ wdOf _ = "enter" then go [nmOf _] ls else none) = _
            rw [if_pos ⟨ha, ew⟩, en]
          rw [es] at h
          simp [z1, cut1]
          have hls : ∀ x ∈ ls, isLine x = true := by
            rw [List.all_eq_true] at ha
            exact fun x hx => ha x (List.mem_cons_of_mem _ hx)
          have gls : ls.length ≤ m := by
            rw [List.length_cons] at gl
            omega
          refine wp_for (I := fun i ρ => ∃ c s2, ρ = [.dat (.tup (.tup (.str "enter" :: .str n :: rest) :: ls)), .own (.lst (c.map D.str)), s2] ∧ c.length ≤ i + 1 ∧ go c (ls.drop i) = go [n] ls) ⟨[n], _, rfl, by simp, rfl⟩ ?_ ?_
          · rintro ρ' ⟨c, s2, rfl, _, hgo⟩
            rw [List.drop_length] at hgo
            have hgo' : some c = go [n] ls := hgo
            rw [← hgo'] at h
            simp
            exact h
          · rintro i x ρ' e ⟨c, s2, rfl, hc, hgo⟩
            have hx := hls x (List.mem_of_getElem? e)
            have hil : i < ls.length := (List.getElem?_eq_some_iff.mp e).1
            obtain ⟨w', n', rest', rfl, hr', ew', en'⟩ := line_shape hx
            rw [dropD e] at hgo
            rcases List.eq_nil_or_concat c with rfl | ⟨c0, z, rfl⟩
            · simp
              have : go [n] ls = none := by rw [← hgo]; show (if _ then none else _) = none; rw [if_pos (.inl rfl)]
              rw [this] at h
              exact h
            · rw [List.concat_eq_append] at *
              have ne : c0 ++ [z] ≠ [] := by simp
              have gl1 : (c0 ++ [z]).getLast? = some z := by simp
              have go1 : go (c0 ++ [z]) (D.tup (D.str w' :: D.str n' :: rest') :: List.drop (i + 1) ls) = if w' = "leave" ∧ z ≠ n' then none else go (stepC (c0 ++ [z]) (D.tup (D.str w' :: D.str n' :: rest'))) (List.drop (i + 1) ls) := by
                show (if _ ∨ _ then none else _) = _
                rw [ew', en', gl1]
                simp
              rw [go1] at hgo
              have hlen : c0.length + 1 < sizeLine := by
                simp at hc
                omega
              by_cases h1 : w' = "leave"
              · subst h1
                by_cases h2 : n' = z
                · subst h2
                  have hs : stepC (c0 ++ [n']) (D.tup (D.str "leave" :: D.str n' :: rest')) = c0 := by
                    unfold stepC
                    rw [ew', if_neg le_ne, if_pos rfl]
                    simp
                  rw [hs, if_neg (by simp)] at hgo
                  have at1 := atI_snoc (c := c0) (z := n')
                  simp at at1
                  simp [at1, le_ne, hPop_snoc]
                  refine ⟨_, rfl, ?_, hgo⟩
                  simp at hc
                  omega
                · have : go [n] ls = none := by rw [← hgo, if_pos ⟨rfl, fun z' => h2 z'.symm⟩]
                  rw [this] at h
                  have at1 := atI_snoc (c := c0) (z := z)
                  simp at at1
                  simp [at1, h2]
                  exact h
              · have h1' : ¬ w' = Str.ofString "leave" := h1
                rw [if_neg (fun z' => h1 z'.1)] at hgo
                by_cases h3 : w' = "enter"
                · subst h3
                  have hs : stepC (c0 ++ [z]) (D.tup (D.str "enter" :: D.str n' :: rest')) = c0 ++ [z] ++ [n'] := by
                    unfold stepC
                    rw [ew', if_pos rfl, en']
                  rw [hs] at hgo
                  simp [en_ne, hlen]
                  refine ⟨c0 ++ [z, n'], by simp, ?_, by simpa using hgo⟩
                  simp at hc ⊢
                  omega
                · have h3' : ¬ w' = Str.ofString "enter" := h3
                  have hs : stepC (c0 ++ [z]) (D.tup (D.str w' :: D.str n' :: rest')) = c0 ++ [z] := by
                    unfold stepC
                    rw [ew', if_neg h3, if_neg h1]
                  rw [hs] at hgo
                  simp [h1', h3']
                  refine ⟨c0 ++ [z], by simp, ?_, hgo⟩
                  simp at hc ⊢
                  omega
        · have es : spec (.tup (.tup (.str w :: .str n :: rest) :: ls)) = none := by
            show (if (_ :: ls).all isLine = true ∧ wdOf _ = "enter" then go [nmOf _] ls else none) = _
            rw [if_neg (fun z => hw (ew ▸ z.2))]
          rw [es] at h
          simp [hw]
          exact h
  | _ => simp [dIsi, dTy, isA]; exact h
theorem isNon_res {o : Option (List Str)} : isNon (res o) = o.isNone := by cases o <;> rfl
theorem isLog_on {m j : Nat} {d : D} {q : D → Prop} {r : Ex → Prop} (hg : Gd m j d) (hm : m ≤ 300000) (h : q (.bl (spec d).isSome)) : onF (F_is_log none [d]) q r := by
  refine onF_run rfl ?_
  unfold M_is_log
  simp
  refine callsOf_on hg hm ?_
  simp [dNotN, isNon_res]
  exact h
theorem openCalls_on {m j : Nat} {d : D} {q : D → Prop} {r : Ex → Prop} (hg : Gd m j d) (hm : m ≤ 300000) (h : ∀ c, spec d = some c → q (.tup (c.map D.str))) (hr : spec d = none → r ⟨E_InvalidLog, none⟩) : onF ((F_open_calls cov E_InvalidLog) none [d]) q r := by
  refine onF_run rfl ?_
  unfold M_open_calls
  simp
  refine callsOf_on hg hm ?_
  cases e : spec d with
  | none => simp [dIsN, res, isNon]; exact hr e
  | some c => simp [dIsN, res, isNon]; exact h c e
theorem refused_on {m j : Nat} {d : D} {q : D → Prop} {r : Ex → Prop} (hv : cov E_InvalidLog E_InvalidLog = some true) (hg : Gd m j d) (hm : m ≤ 300000) (h : q (.bl (spec d).isNone)) : onF ((F__law_refused cov E_InvalidLog) none [d]) q r := by
  refine onF_run rfl ?_
  unfold M__law_refused
  simp
  refine openCalls_on hg hm (fun c e => ?_) fun e => ?_
  · rw [e] at h
    simpa using h
  · rw [e] at h
    simp [hv]
    exact h

end
end VS

namespace VS
open PySem PySem.Spec PyProof.Rows L2
section
variable {cov : Value → Value → Option Bool} {E_InvalidLog : Value}
/-! ### the law's own look -/
def Cl (d : D) : Prop := ∃ p, py d = some p ∧ p.canLay0 = true ∧ p.depth ≤ 60
theorem cl_nil_t {ds : List D} (h : Cl (.tup ds)) : dEq (.tup ds) (.tup []) = some (.bl ds.isEmpty) := by
  obtain ⟨p, e, h1, h2⟩ := h
  unfold py at e
  cases ep : pyAll ds with
  | none => rw [ep] at e; cases e
  | some ps =>
    rw [ep] at e; cases e
    show (dEqv (.tup ds) (.tup [])).map D.bl = _
    unfold dEqv
    have p1 : py (.tup ds) = some (.tuple ps) := by unfold py; rw [ep]; rfl
    have p2 : py (.tup []) = some (.tuple []) := by unfold py pyAll; rfl
    have s1 : SeqAt.shaped (.tuple ps) = true := by
      unfold SeqAt.shaped
      rw [h1, Bool.true_and]
      exact decide_eq_true (by omega)
    rw [p1, p2]
    dsimp only
    rw [if_pos ⟨s1, by decide⟩]
    cases ds with
    | nil => unfold pyAll at ep; cases ep; rfl
    | cons d ds =>
      unfold pyAll at ep
      cases e1 : py d with
      | none => rw [e1] at ep; cases ep
      | some p => cases e2 : pyAll ds with
        | none => rw [e1, e2] at ep; cases ep
        | some ps' => rw [e1, e2] at ep; cases ep; rfl
theorem py_ints (ns : List Int) : pyAll (ns.map D.int) = some (ns.map PyData.int) ∧ PyData.canLayAll0 (ns.map PyData.int) = true ∧ PyData.depthAll (ns.map PyData.int) = 0 := by
  induction ns with
  | nil => exact ⟨by unfold pyAll; rfl, by unfold PyData.canLayAll0; rfl, by unfold PyData.depthAll; rfl⟩
  | cons n ns ih =>
    obtain ⟨h1, h2, h3⟩ := ih
    refine ⟨?_, ?_, ?_⟩
    · rw [List.map_cons]; unfold pyAll py; rw [h1]; rfl
    · rw [List.map_cons]; unfold PyData.canLayAll0 PyData.canLay0; rw [h2]; rfl
    · rw [List.map_cons]; unfold PyData.depthAll PyData.depth; rw [h3]; rfl
theorem sh_ints (ns : List Int) : SeqAt.shaped (.list (ns.map PyData.int)) = true := by
  obtain ⟨h1, h2, h3⟩ := py_ints ns
  unfold SeqAt.shaped PyData.canLay0 PyData.depth
  rw [h2, h3]
  rfl
theorem eq_ints (ns : List Int) : dEqs (.lst (ns.map D.int)) (.lst []) = some ns.isEmpty := by
  show dEqv _ _ = _
  have p1 : py (.lst (ns.map D.int)) = some (.list (ns.map PyData.int)) := by unfold py; rw [(py_ints ns).1]; rfl
  have p2 : py (.lst []) = some (.list []) := by unfold py pyAll; rfl
  unfold dEqv
  rw [p1, p2]
  dsimp only
  rw [if_pos ⟨sh_ints ns, by decide⟩]
  cases ns <;> rfl
theorem dEq_ints (ns : List Int) : dEq (.lst (ns.map D.int)) (.lst []) = some (.bl ns.isEmpty) := by unfold dEq; rw [eq_ints]; rfl
theorem dNe_ints (ns : List Int) : dNe (.lst (ns.map D.int)) (.lst []) = some (.bl (!ns.isEmpty)) := by unfold dNe; rw [eq_ints]; rfl
theorem in_ints (ns : List Int) (i : Int) : dNotIn (.int i) (.lst (ns.map D.int)) = some (.bl (!decide (i ∈ ns))) := by
  have hx : dInX (ns.map D.int) (.int i) = some (decide (i ∈ ns)) := by
    cases ns with
    | nil => rfl
    | cons n ns =>
      have hv : dInV ((n :: ns).map D.int) (.int i) = some (decide (i ∈ n :: ns)) := by
        unfold dInV
        have p0 : py (.int i) = some (.int i) := by unfold py; rfl
        rw [p0, (py_ints (n :: ns)).1]
        dsimp only
        rw [if_pos ⟨(by unfold SeqAt.shaped PyData.canLay0 PyData.depth; rfl), sh_ints (n :: ns)⟩]
        have gen : ∀ l : List Int, ((l.map PyData.int).any fun z => PyData.eqv z (.int i)) = decide (i ∈ l) := by
          intro l
          induction l with
          | nil => rfl
          | cons a l ih =>
            rw [List.map_cons, List.any_cons, ih]
            have : PyData.eqv (.int a) (.int i) = (a == i) := by unfold PyData.eqv; rfl
            rw [this, Bool.eq_iff_iff]
            simp only [Bool.or_eq_true, beq_iff_eq, decide_eq_true_eq, List.mem_cons]
            exact ⟨fun h => h.elim (fun z => .inl z.symm) .inr, fun h => h.elim (fun z => .inl z.symm) .inr⟩
        rw [gen]
      have hl : dInL ((n :: ns).map D.int) (.int i) = none := rfl
      unfold dInX
      rw [hl]
      exact hv
  show (dInX (ns.map D.int) (.int i)).map (fun b => D.bl (b ^^ true)) = _
  rw [hx, Option.map_some, Bool.xor_true]
def ent (L : List D) (s : Nat) : Bool := match L[s]? with
  | some l => decide (wdOf l = "enter")
  | none => false
def nmAt (L : List D) (s : Nat) : Str := match L[s]? with
  | some l => nmOf l
  | none => tx []
def opens (L : List D) (i : Nat) (st : List Int) : List Nat := (List.range i).filter fun s => ent L s && !decide ((s : Int) ∈ st)
theorem opens_succ {L : List D} {i : Nat} {st : List Int} : opens L (i + 1) st = opens L i st ++ (if (ent L i && !decide ((i : Int) ∈ st)) = true then [i] else []) := by
  unfold opens
  rw [List.range_succ, List.filter_append]
  congr 1
  rw [List.filter_cons]
  split <;> rfl
theorem opens_lt {L : List D} {i s : Nat} {st : List Int} (h : s ∈ opens L i st) : s < i ∧ ent L s = true ∧ (s : Int) ∉ st := by
  unfold opens at h
  rw [List.mem_filter, List.mem_range, Bool.and_eq_true] at h
  refine ⟨h.1, h.2.1, ?_⟩
  have := h.2.2
  simpa using this
theorem opens_nodup {L : List D} {i : Nat} {st : List Int} : (opens L i st).Nodup := List.Pairwise.filter _ List.nodup_range
theorem opens_close {L : List D} {i z : Nat} {st : List Int} {o : List Nat} (h : opens L i st = o ++ [z]) : opens L i (st ++ [(z : Int)]) = o := by
  have e : opens L i (st ++ [(z : Int)]) = (opens L i st).filter fun s => !decide (s = z) := by
    unfold opens
    rw [List.filter_filter]
    congr 1
    funext s
    rw [Bool.eq_iff_iff]
    simp
    constructor
    · rintro ⟨h1, h2, h3⟩; exact ⟨by omega, h1, h2⟩
    · rintro ⟨h1, h2, h3⟩; exact ⟨h2, h3, by omega⟩
  have nd := opens_nodup (L := L) (i := i) (st := st)
  rw [e, h, List.filter_append]
  rw [h, List.nodup_append] at nd
  have h1 : o.filter (fun s => !decide (s = z)) = o := by
    rw [List.filter_eq_self]
    intro s hs
    have : s ≠ z := fun q => nd.2.2 s hs z (by simp) q
    simpa using this
  rw [h1]
  simp
def oL (o : List Nat) : List D := (o.map fun (s : Nat) => (s : Int)).map D.int
theorem oL_snoc {o : List Nat} {s : Nat} : oL o ++ [.int s] = oL (o ++ [s]) := by unfold oL; simp
theorem oL_len {o : List Nat} : (oL o).length = o.length := by unfold oL; simp
theorem oL_last {o : List Nat} {z : Nat} : atI (oL (o ++ [z])) (-1) = some (.int z) := by
  rw [← oL_snoc]
  exact atI_last _ _

end
end VS

namespace VS
open PySem PySem.Spec PyProof.Rows L2
section
variable {cov : Value → Value → Option Bool} {E_InvalidLog : Value}
theorem line_at {L : List D} {s : Nat} (hL : ∀ x ∈ L, isLine x = true) (hs : s < L.length) : ∃ w n rest, L[s]? = some (.tup (.str w :: .str n :: rest)) ∧ rest.length ≤ 1 ∧ ent L s = decide (w = "enter") ∧ nmAt L s = n := by
  have e := List.getElem?_eq_getElem hs
  obtain ⟨w, n, rest, el, hr, ew, en⟩ := line_shape (hL _ (List.getElem_mem hs))
  refine ⟨w, n, rest, by rw [e, el], hr, ?_, ?_⟩
  · unfold ent; rw [e]; dsimp only; rw [ew]
  · unfold nmAt; rw [e]; exact en
theorem opens_len {L : List D} {i : Nat} {st : List Int} : (opens L i st).length ≤ i := by
  unfold opens
  have := List.length_filter_le (fun s => ent L s && !decide ((s : Int) ∈ st)) (List.range i)
  rwa [List.length_range] at this
abbrev condC : Mo Bool := andT (testM (opM dEq (immM (opM dIx (immM (opM dIx (slotM 0) (slotM 4))) (immM (pure (.int 0))))) (immM (pure (.str "enter"))))) (testM (opM dNotIn (slotM 4) (slotM 1)))
theorem lc_opens {L : List D} {st : List Int} {i : Nat} {a2 a3 a5 : Sl} {Q : D → List Sl → Prop} {R : Ex → List Sl → Prop} (hL : ∀ x ∈ L, isLine x = true) (hi : i ≤ L.length) (hz : L.length ≤ 300000) (h : Q (.lst (oL (opens L i st))) [.dat (.tup L), .own (.lst (st.map D.int)), a2, a3, .no, a5]) :
    wpR (lcR [4] (tgN 4) condC (slotM 4 >>= leak) [] (upTo 0 i) [.dat (.tup L), .own (.lst (st.map D.int)), a2, a3, .no, a5]) Q R := by
  have sz : 1000000 ≤ sizeLine := by decide
  refine lc_inv (I := fun s acc ρ => ρ = [.dat (.tup L), .own (.lst (st.map D.int)), a2, a3, .no, a5] ∧ acc = oL (opens L s st)) ⟨rfl, rfl⟩ ?_ ?_
  · rintro acc ρ' ⟨rfl, rfl⟩
    rw [upTo_len]
    exact h
  · rintro s dd acc ρ' e ⟨rfl, rfl⟩
    obtain ⟨hs, rfl⟩ := upTo_get e
    obtain ⟨w, n, rest, eL, hr, ee, en⟩ := line_at hL (show s < L.length by omega)
    have hlen : (oL (opens L s st)).length < sizeLine := by
      rw [oL_len]
      have := opens_len (L := L) (i := s) (st := st)
      omega
    refine ⟨_, rfl, ?_⟩
    simp [condC, atI_nat eL]
    rw [opens_succ, ee]
    by_cases hw : w = "enter"
    · have hw' : w = Str.ofString "enter" := hw
      rw [if_pos hw', in_ints]
      by_cases hm : (s : Int) ∈ st
      · simp [hm]
      · simp [hm, hw, hlen]
        exact oL_snoc
    · have hw' : ¬ w = Str.ofString "enter" := hw
      rw [if_neg hw']
      simp [hw]
theorem lc_names {L : List D} {st : List Int} {i : Nat} {a2 a3 a5 : Sl} {Q : D → List Sl → Prop} {R : Ex → List Sl → Prop} (hL : ∀ x ∈ L, isLine x = true) (hi : i ≤ L.length) (hz : L.length ≤ 300000) (h : Q (.lst (((opens L i st).map (nmAt L)).map D.str)) [.dat (.tup L), .own (.lst (st.map D.int)), a2, a3, .no, a5]) :
    wpR (lcR [4] (tgN 4) condC (opM dIx (immM (opM dIx (slotM 0) (slotM 4))) (immM (pure (.int 1)))) [] (upTo 0 i) [.dat (.tup L), .own (.lst (st.map D.int)), a2, a3, .no, a5]) Q R := by
  have sz : 1000000 ≤ sizeLine := by decide
  refine lc_inv (I := fun s acc ρ => ρ = [.dat (.tup L), .own (.lst (st.map D.int)), a2, a3, .no, a5] ∧ acc = ((opens L s st).map (nmAt L)).map D.str) ⟨rfl, rfl⟩ ?_ ?_
  · rintro acc ρ' ⟨rfl, rfl⟩
    rw [upTo_len]
    exact h
  · rintro s dd acc ρ' e ⟨rfl, rfl⟩
    obtain ⟨hs, rfl⟩ := upTo_get e
    obtain ⟨w, n, rest, eL, hr, ee, en⟩ := line_at hL (show s < L.length by omega)
    have hlen : (opens L s st).length < sizeLine := by
      have := opens_len (L := L) (i := s) (st := st)
      omega
    refine ⟨_, rfl, ?_⟩
    simp [condC, atI_nat eL]
    rw [opens_succ, ee]
    by_cases hw : w = "enter"
    · have hw' : w = Str.ofString "enter" := hw
      rw [if_pos hw', in_ints]
      by_cases hm : (s : Int) ∈ st
      · simp [hm]
      · simp [hm, hw, hlen, en, atI_nat eL]
    · have hw' : ¬ w = Str.ofString "enter" := hw
      rw [if_neg hw']
      simp [hw]

end
end VS

namespace VS
open PySem PySem.Spec PyProof.Rows L2
section
variable {cov : Value → Value → Option Bool} {E_InvalidLog : Value}
theorem go_cons {c : List Str} {l : D} {ls : List D} : go c (l :: ls) = if c = [] ∨ (wdOf l = "leave" ∧ c.getLast? ≠ some (nmOf l)) then none else go (stepC c l) ls := rfl
/-- what holds ahead of the turn i -/
def Inv2 (L : List D) (o : Option (List Str)) (i : Nat) (ρ : List Sl) : Prop := ∃ (st : List Int) (a2 a3 : Sl), ρ = [.dat (.tup L), .own (.lst (st.map D.int)), a2, a3, .no, .no] ∧ (∀ z ∈ st, z < (i : Int)) ∧ st.length ≤ i ∧ (i = 0 → st = []) ∧ (0 < i → ∃ c, go c (L.drop i) = o ∧ (opens L i st).map (nmAt L) = c)
theorem turn0 {l : D} {ls : List D} (hl : wdOf l = "enter") (ha : (l :: ls).all isLine = true) : spec (.tup (l :: ls)) = go [nmOf l] ls := by
  show (if (l :: ls).all isLine = true ∧ wdOf l = "enter" then go [nmOf l] ls else none) = _
  rw [if_pos ⟨ha, hl⟩]
theorem turn0n {l : D} {ls : List D} (hl : ¬ wdOf l = "enter") : spec (.tup (l :: ls)) = none := by
  show (if (l :: ls).all isLine = true ∧ wdOf l = "enter" then go [nmOf l] ls else none) = _
  rw [if_neg fun z => hl z.2]
def loopM : Mo Out := (forM (rngM1 (consD (bltM dLen (consP (slotM 0) (pure []))) (pure []))) (tgN 2) (seqM (setF 3 (lcM [4] (rngM1 (consD (slotM 2 >>= leak) (pure []))) (tgN 4) (andT (testM (opM dEq (immM (opM dIx (immM (opM dIx (slotM 0) (slotM 4))) (immM (pure (.int 0))))) (immM (pure (.str "enter"))))) (testM (opM dNotIn (slotM 4) (slotM 1)))) (slotM 4 >>= leak)))
  (seqM (ifM (andT (testM (opM dEq (slotM 3) (immM (lstM (pure []))))) (orT (testM (opM dGt (slotM 2) (immM (pure (.int 0))))) (testM (opM dNe (immM (opM dIx (immM (opM dIx (slotM 0) (slotM 2))) (immM (pure (.int 0))))) (immM (pure (.str "enter"))))))) (retM (pure .non)) (pure .nx))
  (ifM (testM (opM dEq (immM (opM dIx (immM (opM dIx (slotM 0) (slotM 2))) (immM (pure (.int 0))))) (immM (pure (.str "leave"))))) (seqM (ifM (testM (opM dNe (immM (opM dIx (immM (opM dIx (slotM 0) (immM (opM dIx (slotM 3) (immM (pure (.int (-1)))))))) (immM (pure (.int 1))))) (immM (opM dIx (immM (opM dIx (slotM 0) (slotM 2))) (immM (pure (.int 1))))))) (retM (pure .non)) (pure .nx))
  (dropM (appM 1 (opM dIx (slotM 3) (immM (pure (.int (-1)))))))) (pure .nx)))))
def tailM : Mo Out := (retM (lcM [4] (rngM1 (consD (bltM dLen (consP (slotM 0) (pure []))) (pure []))) (tgN 4) (andT (testM (opM dEq (immM (opM dIx (immM (opM dIx (slotM 0) (slotM 4))) (immM (pure (.int 0))))) (immM (pure (.str "enter"))))) (testM (opM dNotIn (slotM 4) (slotM 1)))) (opM dIx (immM (opM dIx (slotM 0) (slotM 4))) (immM (pure (.int 1))))))
theorem rng_len {L : List D} {ρ : List Sl} {Q : List D → List Sl → Prop} {R : Ex → List Sl → Prop} (e : ρ[0]? = some (.dat (.tup L))) (hz : L.length ≤ 300000) (h : Q (upTo 0 L.length) ρ) : wp (rngM1 (consD (bltM dLen (consP (slotM 0) (pure []))) (pure []))) ρ Q R := by
  have hb : -(2 ^ 62) ≤ (L.length : Int) ∧ (L.length : Int) < 2 ^ 62 := ⟨by omega, by omega⟩
  have er : dRng1 [.int (L.length : Int)] = some (upTo 0 L.length) := by
    rw [dRng1_int, if_pos hb, Int.toNat_natCast]
  rw [wp_rng1, wp_consD, wp_blt, wp_consP, wp_slot, e, slotR_dat, wpR_ok, wp_pure, wp_looks1, wp_lookS, e, lookR_dat, wpR_ok, wp_looks0, dLen_tup, wp_some, wp_pure, er, wp_some]
  exact h
theorem rng_slot {i : Nat} {ρ : List Sl} {Q : List D → List Sl → Prop} {R : Ex → List Sl → Prop} (e : ρ[2]? = some (.dat (.int (i : Int)))) (hz : i ≤ 300000) (h : Q (upTo 0 i) ρ) : wp (rngM1 (consD (slotM 2 >>= leak) (pure []))) ρ Q R := by
  have hb : -(2 ^ 62) ≤ (i : Int) ∧ (i : Int) < 2 ^ 62 := ⟨by omega, by omega⟩
  have er : dRng1 [.int (i : Int)] = some (upTo 0 i) := by rw [dRng1_int, if_pos hb, Int.toNat_natCast]
  rw [wp_rng1, wp_consD, wp_bind, wp_slot, e, slotR_dat, wpR_ok, wp_leakS, e, leakR_dat, wpR_ok, wp_pure, er, wp_some]
  exact h
theorem go_nil_cons {l : D} {ls : List D} : go [] (l :: ls) = none := by rw [go_cons, if_pos (.inl rfl)]
theorem loop_ok {L : List D} {o : Option (List Str)} {q : D → Prop} {r : Ex → Prop} {ρ' : List Sl} (hz : L.length ≤ 300000) (hL : ∀ x ∈ L, isLine x = true) (ho : ∀ l, L[0]? = some l → (wdOf l = "enter" → o = go [nmOf l] (L.drop 1)) ∧ (¬ wdOf l = "enter" → o = none)) (h : o = none → q .non) (h0 : Inv2 L o 0 ρ') : wp loopM ρ' (fun ou ρ2 => match ou with
      | .nx => Inv2 L o L.length ρ2
      | .rt x => q x
      | _ => False) (fun e _ => r e) := by
  have sz : 1000000 ≤ sizeLine := by decide
  have z0 : (0 : Nat) ≤ sizeLine := by omega
  unfold loopM
  have h00 := h0
  obtain ⟨st0, b2, b3, e00, _⟩ := h00
  rw [wp_forM]
  refine rng_len (L := L) (by rw [e00]; rfl) hz ?_
  refine wp_for (I := fun i ρ => i ≤ L.length ∧ Inv2 L o i ρ) ⟨Nat.zero_le _, h0⟩ (fun ρ2 h2 => ?_) ?_
  · rw [upTo_len] at h2
    exact h2.2
  · rintro i x ρ2 e ⟨hil, st, a2, a3, rfl, hst, hsl, hi0, hgo⟩
    obtain ⟨hi, rfl⟩ := upTo_get e
    have hi' : i < L.length := hi
    obtain ⟨w, n, rest, eL, hr, ee, en⟩ := line_at hL hi'
    have ew : wdOf (D.tup (.str w :: .str n :: rest)) = w := rfl
    have enm : nmOf (D.tup (.str w :: .str n :: rest)) = n := rfl
    rw [wp_tg]
    show wp _ [.dat (.tup L), .own (.lst (st.map D.int)), .dat (.int (0 + (i : Int))), a3, .no, .no] _ _
    rw [Int.zero_add]
    refine wp_seq (P := fun ρ => ρ = [.dat (.tup L), .own (.lst (st.map D.int)), .dat (.int i), .own (.lst (oL (opens L i st))), .no, .no]) ?_ ?_
    · rw [wp_setF, wp_lc]
      refine rng_slot (i := i) rfl (by omega) ?_
      refine lc_opens hL (Nat.le_of_lt hi') hz ?_
      rfl
    · rintro ρ3 rfl
      have ex : L.drop i = D.tup (.str w :: .str n :: rest) :: L.drop (i + 1) := drop_get eL
      -- what the turn is worth, if it goes on
      have key : (opens L i st = [] → ((i : Int) > 0 ∨ ¬ w = "enter") → o = none) ∧ (∀ (o' : List Nat) (z : Nat), opens L i st = o' ++ [z] → w = "leave" → nmAt L z ≠ n → o = none) := by
        refine ⟨fun he hcase => ?_, fun o' z he hw hne => ?_⟩
        · by_cases h1 : i = 0
          · subst h1
            have hne : ¬ w = "enter" := by
              rcases hcase with c | c
              · omega
              · exact c
            exact (ho _ eL).2 (by rw [ew]; exact hne)
          · obtain ⟨c, hg1, hop⟩ := hgo (by omega)
            rw [he] at hop
            rw [ex, ← hop, List.map_nil, go_nil_cons] at hg1
            exact hg1.symm
        · have h1 : 0 < i := by
            have := (opens_lt (L := L) (i := i) (st := st) (s := z) (by rw [he]; simp)).1
            omega
          obtain ⟨c, hg1, hop⟩ := hgo h1
          rw [he, List.map_append] at hop
          rw [ex, ← hop, go_cons, if_pos (.inr ⟨by rw [ew]; exact hw, by rw [enm]; simpa using hne⟩)] at hg1
          exact hg1.symm
      obtain ⟨key1, key2⟩ := key
      have eqn : ∀ o1 : List Nat, dEq (.lst (oL o1)) (.lst []) = some (.bl o1.isEmpty) := fun o1 => by
        have := dEq_ints (o1.map fun (s : Nat) => (s : Int))
        unfold oL
        rw [this]
        cases o1 <;> rfl
      refine wp_seq (P := fun ρ => ρ = [.dat (.tup L), .own (.lst (st.map D.int)), .dat (.int i), .own (.lst (oL (opens L i st))), .no, .no] ∧ (opens L i st = [] → i = 0 ∧ w = "enter")) ?_ ?_
      · simp [z0, eqn, atI_nat eL]
        cases ho1 : opens L i st with
        | nil =>
          simp
          by_cases h1 : (i : Int) > 0
          · rw [if_pos (by simpa using h1)]
            exact h (key1 ho1 (.inl h1))
          · rw [if_neg (by simpa using h1)]
            by_cases h2 : w = "enter"
            · subst h2
              simp [ho1]
              omega
            · have h2' : ¬ w = Str.ofString "enter" := h2
              simp [h2', ho1]
              exact h (key1 ho1 (.inr h2))
        | cons s1 s2 => simp [ho1]
      · rintro ρ3 ⟨rfl, hne⟩
        have hst' : ∀ z ∈ st, z < ((i + 1 : Nat) : Int) := fun z hz => by have := hst z hz; omega
        have notin : (i : Int) ∉ st := fun z => by have := hst _ z; omega
        have osucc : ∀ st' : List Int, (∀ z ∈ st', z < (i : Int)) → opens L (i + 1) st' = opens L i st' ++ (if w = "enter" then [i] else []) := fun st' hs' => by
          have ni : (i : Int) ∉ st' := fun z => by have := hs' _ z; omega
          rw [opens_succ, ee]
          by_cases hw : w = "enter" <;> simp [hw, ni]
        -- the log's open calls behind this line
        have go1 : ∀ c, go c (L.drop i) = o → c ≠ [] → ¬ (w = "leave" ∧ c.getLast? ≠ some n) → go (stepC c (D.tup (.str w :: .str n :: rest))) (L.drop (i + 1)) = o := fun c hc h1 h2 => by
          rw [ex, go_cons, if_neg (by rw [ew, enm]; rintro (z | z); exact h1 z; exact h2 z)] at hc
          exact hc
        by_cases hw : w = "leave"
        · subst hw
          have hne' : opens L i st ≠ [] := fun z => by have := (hne z).2; exact absurd this (by decide +kernel)
          obtain ⟨o', z, ho'⟩ : ∃ o' z, opens L i st = o' ++ [z] := by
            rcases List.eq_nil_or_concat (opens L i st) with z | ⟨o', z, hz'⟩
            · exact absurd z hne'
            · exact ⟨o', z, by rw [hz', List.concat_eq_append]⟩
          have zlt := opens_lt (L := L) (i := i) (st := st) (s := z) (by rw [ho']; simp)
          obtain ⟨w2, n2, rest2, eL2, hr2, ee2, en2⟩ := line_at hL (show z < L.length by omega)
          have h1 : 0 < i := by omega
          have zl := oL_last (o := o') (z := z)
          by_cases hn : n2 = n
          · subst hn
            obtain ⟨c, hg1, hop⟩ := hgo h1
            have hc := opens_close (L := L) (i := i) (st := st) ho'
            simp [atI_nat eL, ho', zl, atI_nat eL2]
            refine ⟨by omega, by omega, st ++ [(z : Int)], _, _, by rw [List.map_append]; rfl, ?_, by simp; omega, fun z0 => absurd z0 (by omega), fun _ => ⟨_, go1 c hg1 ?_ ?_, ?_⟩⟩
            · intro y hy
              rcases List.mem_append.mp hy with y1 | y1
              · exact hst' y y1
              · have : y = (z : Int) := by simpa using y1
                omega
            · rw [← hop, ho']; simp
            · rw [← hop, ho', List.map_append]
              rintro ⟨_, hh⟩
              exact hh (by simp [en2])
            · have e1 : opens L (i + 1) (st ++ [(z : Int)]) = o' := by
                rw [osucc _ (fun y hy => by
                  rcases List.mem_append.mp hy with y1 | y1
                  · exact hst y y1
                  · have : y = (z : Int) := by simpa using y1
                    omega), hc]
                simp [le_ne]
              have e2 : stepC c (D.tup (.str "leave" :: .str n2 :: rest)) = c.dropLast := by
                unfold stepC
                rw [ew, if_neg le_ne, if_pos rfl]
              rw [e1, e2, ← hop, ho', List.map_append]
              simp
          · have kn := key2 o' z ho' rfl (by rw [en2]; exact hn)
            simp [atI_nat eL, ho', zl, atI_nat eL2, hn]
            exact h kn
        · have hw' : ¬ w = Str.ofString "leave" := hw
          simp [atI_nat eL, hw']
          refine ⟨by omega, st, _, _, rfl, hst', by omega, fun z0 => absurd z0 (by omega), fun _ => ?_⟩
          by_cases h1 : i = 0
          · subst h1
            have st0 : st = [] := hi0 rfl
            subst st0
            have o0 : opens L 0 [] = [] := rfl
            have hw2 := (hne o0).2
            refine ⟨[n], ((ho _ eL).1 (by rw [ew]; exact hw2)).symm, ?_⟩
            rw [osucc _ hst, o0, if_pos hw2]
            simp [en]
          · obtain ⟨c, hg1, hop⟩ := hgo (by omega)
            have cne : c ≠ [] := fun z => by
              rw [z] at hop
              exact h1 (hne (List.map_eq_nil_iff.mp hop)).1
            refine ⟨_, go1 c hg1 cne (fun z => hw z.1), ?_⟩
            rw [osucc _ hst, List.map_append, hop]
            unfold stepC
            rw [ew, enm]
            by_cases he : w = "enter"
            · rw [if_pos he, if_pos he]
              simp [en]
            · rw [if_neg he, if_neg he, if_neg hw]
              simp
theorem tail_ok {L : List D} {o : Option (List Str)} {q : D → Prop} {r : Ex → Prop} {ρ' : List Sl} (hz : L.length ≤ 300000) (hl : 0 < L.length) (hL : ∀ x ∈ L, isLine x = true) (h : q (res o)) (h0 : Inv2 L o L.length ρ') : wp tailM ρ' (fun ou _ => match ou with
      | .rt x => q x
      | _ => False) (fun e _ => r e) := by
  obtain ⟨st, a2, a3, e, hst, hsl, _, hgo⟩ := h0
  obtain ⟨c, hgo, hop⟩ := hgo hl
  rw [List.drop_length] at hgo
  have hgo' : some c = o := hgo
  rw [← hgo'] at h
  unfold tailM
  rw [wp_retM, wp_lc]
  refine rng_len (L := L) (by rw [e]; rfl) hz ?_
  have ew : wipeS ρ' [4] = [.dat (.tup L), .own (.lst (st.map D.int)), a2, a3, .no, .no] := by rw [e]; rfl
  rw [ew]
  refine lc_names hL (Nat.le_refl _) hz ?_
  rw [hop]
  exact h
theorem openIn_on {m j : Nat} {d : D} {q : D → Prop} {r : Ex → Prop} (hg : Gd m j d) (hm : m ≤ 300000) (hc : ∀ ds, d = .tup ds → Cl d) (h : q (res (spec d))) : onF (F__law_open_in none [d]) q r := by
  refine onF_run rfl ?_
  unfold M__law_open_in
  show wp (seqM (ifM _ _ _) (seqM (setF 1 (lstM (pure []))) (seqM loopM tailM))) _ _ _
  have sz : 1000000 ≤ sizeLine := by decide
  have z0 : (0 : Nat) ≤ sizeLine := by omega
  cases d with
  | obj _ _ => obtain ⟨t, e⟩ := gd_ty hg; cases e
  | kls _ => obtain ⟨t, e⟩ := gd_ty hg; cases e
  | err _ => obtain ⟨t, e⟩ := gd_ty hg; cases e
  | exn _ => obtain ⟨t, e⟩ := gd_ty hg; cases e
  | exc _ _ => obtain ⟨t, e⟩ := gd_ty hg; cases e
  | dtk _ => obtain ⟨t, e⟩ := gd_ty hg; cases e
  | ktu _ => obtain ⟨t, e⟩ := gd_ty hg; cases e
  | tup ds =>
   cases ds with
   | nil =>
    have cl := hc [] rfl
    simp [dIsi, dTy, isA, cl_nil_t cl]
    exact h
   | cons l ls =>
    obtain ⟨j, rfl⟩ := gd_depth hg
    have gi := gd_items hg
    have gl := gd_tup_len hg
    have cl := hc (l :: ls) rfl
    refine wp_seq (P := fun ρ' => ρ' = [.dat (.tup (l :: ls)), .no, .no, .no, .no, .no] ∧ ∀ x ∈ l :: ls, isLine x = true) ?_ ?_
    · simp [dIsi, dTy, isA, cl_nil_t cl]
      try simp
      refine lc_inv (I := fun i acc ρ => ρ = [.dat (.tup (l :: ls)), .no, .no, .no, .no, .no] ∧ acc = ((((l :: ls).take i).filter fun x => !isLine x).map fun _ => (1 : Int)).map D.int) ⟨rfl, rfl⟩ ?_ ?_
      · rintro acc ρ' ⟨rfl, rfl⟩
        rw [List.take_length]
        simp only [dNe_ints]
        by_cases ha : ∀ x ∈ l :: ls, isLine x = true
        · have e0 : ((l :: ls).filter fun x => !isLine x) = [] := by
            rw [List.filter_eq_nil_iff]
            intro x hx
            simp [ha x hx]
          rw [e0]
          simp
          have h1 := ha l (by simp)
          exact ⟨h1, fun x hx => ha x (List.mem_cons_of_mem _ hx)⟩
        · have e0 : ((l :: ls).filter fun x => !isLine x) ≠ [] := fun z => ha (by
            rw [List.filter_eq_nil_iff] at z
            intro x hx
            have := z x hx
            simpa using this)
          have es : spec (.tup (l :: ls)) = none := by
            show (if (l :: ls).all isLine = true ∧ wdOf l = "enter" then go [nmOf l] ls else none) = none
            rw [if_neg]
            intro z
            exact ha (List.all_eq_true.mp z.1)
          rw [es] at h
          have e1 : (((l :: ls).filter fun x => !isLine x).map fun _ => (1 : Int)).isEmpty = false := by
            cases e2 : ((l :: ls).filter fun x => !isLine x) with
            | nil => exact absurd e2 e0
            | cons _ _ => rfl
          rw [e1]
          simp
          exact h
      · rintro i x acc ρ' e ⟨rfl, rfl⟩
        refine ⟨_, rfl, ?_⟩
        have hx := List.mem_of_getElem? e
        have hz : (((((l :: ls).take i).filter fun x => !isLine x).map fun _ => (1 : Int)).map D.int).length < sizeLine := by
          rw [List.length_map, List.length_map]
          have := List.length_filter_le (fun x => !isLine x) ((l :: ls).take i)
          rw [List.length_take] at this
          omega
        rw [takeD_snoc e, List.filter_append]
        generalize ((l :: ls).take i).filter (fun x => !isLine x) = fl at hz ⊢
        simp at hz
        simp
        refine isLine_on (gi x hx) hm ?_
        cases hb : isLine x with
        | true => simp only [List.filter_cons, hb, List.filter_nil]; simp
        | false => simp only [List.filter_cons, hb, List.filter_nil]; simp [hz]
    · intro ρ' hP
      obtain ⟨hρ, hL⟩ := hP
      rw [hρ]
      have ha : (l :: ls).all isLine = true := List.all_eq_true.mpr hL
      refine wp_seq (P := fun ρ' => Inv2 (l :: ls) (spec (.tup (l :: ls))) 0 ρ') ?_ ?_
      · simp [z0]
        exact ⟨[], .no, .no, rfl, ⟨fun z hz => absurd hz (by simp), Nat.le_refl _, fun _ => rfl, fun z => absurd z (by omega)⟩⟩
      · intro ρ2 h0
        refine wp_seq (P := fun ρ' => Inv2 (l :: ls) (spec (.tup (l :: ls))) (l :: ls).length ρ') ?_ ?_
        · refine wp_mono (loop_ok (q := q) (Nat.le_trans gl hm) hL (fun l' e' => by cases e'; exact ⟨fun hw => turn0 hw ha, fun hw => turn0n hw⟩) (fun es => by rw [es] at h; exact h) h0) fun o ρ3 hI => ?_
          cases o with
          | nx => exact hI
          | rt x => exact ⟨rfl, hI⟩
          | _ => exact hI.elim
        · intro ρ3 h1
          refine wp_mono (tail_ok (q := q) (Nat.le_trans gl hm) (by simp) hL h h1) fun o ρ4 hI => ?_
          cases o with
          | rt x => exact ⟨rfl, hI⟩
          | _ => exact hI.elim
  | _ => simp [dIsi, dTy, isA]; exact h

end
end VS

namespace VS
open PySem PySem.Spec PyProof.Rows L2
section
variable {cov : Value → Value → Option Bool} {E_InvalidLog : Value}
theorem go_app {l : D} : ∀ (a : List D) (c : List Str), go c (a ++ [l]) = (go c a).bind fun c' => go c' [l]
  | [], c => rfl
  | x :: a, c => by
    rw [List.cons_append, go_cons, go_cons]
    split
    · rfl
    · exact go_app a _
theorem spec_snoc {F : List D} {l : D} {o : List Str} (h : spec (.tup F) = some o) (hl : isLine l = true) (hok : ¬ (o = [] ∨ (wdOf l = "leave" ∧ o.getLast? ≠ some (nmOf l)))) : spec (.tup (F ++ [l])) = some (stepC o l) := by
  cases F with
  | nil => cases h
  | cons x F =>
    have e : spec (.tup (x :: F)) = if (x :: F).all isLine = true ∧ wdOf x = "enter" then go [nmOf x] F else none := rfl
    have e2 : spec (.tup (x :: F ++ [l])) = if (x :: (F ++ [l])).all isLine = true ∧ wdOf x = "enter" then go [nmOf x] (F ++ [l]) else none := rfl
    rw [e] at h
    split at h
    · rename_i hc
      have : (x :: (F ++ [l])).all isLine = true := by
        have := hc.1
        simp only [List.all_cons, List.all_append, List.all_nil, Bool.and_eq_true] at this ⊢
        exact ⟨this.1, this.2, hl, trivial⟩
      rw [e2, if_pos ⟨this, hc.2⟩, go_app, h]
      show go o [l] = _
      rw [go_cons, if_neg hok]
      rfl
    · cases h
/-- a line that was drawn -/
structure Lw (x : D) : Prop where
  il : isLine x = true
  v : Vl 300 1 x
  n : nodc x = true
theorem nm_vl {x : Str} (h : Nm (.str x)) : good (.str x) = true ∧ x.length ≤ 8 := by
  obtain ⟨l, e, h1, h2, h3⟩ := h
  cases e
  refine ⟨?_, by rw [tx_len]; exact h2⟩
  unfold good
  rw [tx_cps, List.all_eq_true]
  intro c hc
  have := h3 c hc
  unfold Let at this
  exact decide_eq_true (by omega)
theorem lw2 {w x : Str} (hw : w ∈ ([("enter" : Str), "leave", "say"] : List Str)) (h : Nm (.str x)) : Lw (.tup [.str w, .str x]) := by
  obtain ⟨g, l⟩ := nm_vl h
  have hw' : good (.str w) = true ∧ w.length ≤ 5 := by
    have : ([("enter" : Str), "leave", "say"] : List Str).all (fun w => good (.str w) && decide (w.length ≤ 5)) = true := by decide +kernel
    have := List.all_eq_true.mp this w hw
    rw [Bool.and_eq_true] at this
    exact ⟨this.1, of_decide_eq_true this.2⟩
  refine ⟨?_, vl_tup (fun d hd => ?_) ?_, by unfold nodc nodcAll nodc nodcAll nodc nodcAll; rfl⟩
  · show (isName (.str x) && isW ["enter", "leave", "say"] (.str w)) = true
    rw [nm_name h, Bool.true_and]
    exact decide_eq_true hw
  · simp only [List.mem_cons, List.not_mem_nil, or_false] at hd
    rcases hd with rfl | rfl
    · exact ⟨hw'.1, by unfold dp; omega⟩
    · exact ⟨g, by unfold dp; omega⟩
  · rw [wtAll_cons, wtAll_cons, wtAll_nil]
    unfold wt
    omega
theorem lw3 {w x : Str} {k : Int} (hw : w ∈ ([("ask" : Str), "say"] : List Str)) (h : Nm (.str x)) (k0 : 0 ≤ k) (k1 : k < 4) : Lw (.tup [.str w, .str x, .int k]) := by
  obtain ⟨g, l⟩ := nm_vl h
  have hw' : good (.str w) = true ∧ w.length ≤ 5 := by
    have : ([("ask" : Str), "say"] : List Str).all (fun w => good (.str w) && decide (w.length ≤ 5)) = true := by decide +kernel
    have := List.all_eq_true.mp this w hw
    rw [Bool.and_eq_true] at this
    exact ⟨this.1, of_decide_eq_true this.2⟩
  refine ⟨?_, vl_tup (fun d hd => ?_) ?_, by unfold nodc nodcAll nodc nodcAll nodc nodcAll nodc nodcAll; rfl⟩
  · show (isName (.str x) && (isW ["ask", "say"] (.str w) && (decide (0 ≤ k) && decide (k < 4)))) = true
    have : isW ["ask", "say"] (.str w) = true := decide_eq_true hw
    rw [nm_name h, this, decide_eq_true k0, decide_eq_true k1]
    rfl
  · simp only [List.mem_cons, List.not_mem_nil, or_false] at hd
    rcases hd with rfl | rfl | rfl
    · exact ⟨hw'.1, by unfold dp; omega⟩
    · exact ⟨g, by unfold dp; omega⟩
    · refine ⟨?_, by unfold dp; omega⟩
      unfold good
      exact decide_eq_true (by omega)
  · rw [wtAll_cons, wtAll_cons, wtAll_cons, wtAll_nil]
    unfold wt
    omega
theorem log_on {n : Nat} {d : D} {q : D → D → Prop} {r : Ex → D → Prop} (hU : Urn n d) (hn : n ≤ 2 ^ 27) (h : ∀ (F : List D) (o : List Str) (d' : D), F.length ≤ 24 → o.length ≤ 24 → (∀ x ∈ F, Lw x) → (∀ x ∈ o, Nm (.str x)) → spec (.tup F) = some o → Urn (n + 200) d' → q (.tup F) d') : onU (F__law_log (some d) []) q r := by
  refine onU_run rfl ?_
  unfold M__law_log
  simp
  refine names_on (m := 3) hU (by omega) (by omega) fun ns d1 hl hN hU1 => ?_
  try simp
  refine names_on (m := 2) hU1 (by omega) (by omega) fun ws d2 hl2 hN2 hU2 => ?_
  obtain ⟨n0, n1, n2, rfl⟩ : ∃ a b c, ns = [a, b, c] := by
    match ns, hl with
    | [a, b, c], _ => exact ⟨a, b, c, rfl⟩
  simp [szT]
  refine take_on hU2 (by decide) (by decide) (by omega) fun t d3 t0 t1 hU3 => ?_
  simp [szT]
  refine ⟨by omega, ?_⟩
  have strsE : ∀ o : List Str, (∀ x ∈ o, Nm (.str x)) → dNe (.lst (o.map D.str)) (.lst []) = some (.bl (!o.isEmpty)) := fun o ho => by
    have g : ∀ d ∈ o.map D.str, good d = true ∧ nodc d = true ∧ dp d ≤ 0 := fun d hd => by
      obtain ⟨x, hx, rfl⟩ := List.mem_map.mp hd
      exact ⟨(nm_vl (ho x hx)).1, by unfold nodc; rfl, by unfold dp; omega⟩
    rw [ne_nil_lst (fun d hd => (g d hd).1) (fun d hd => (g d hd).2.1) (fun d hd => Nat.le_trans (g d hd).2.2 (by decide))]
    cases o <;> rfl
  refine wp_for (I := fun i ρ => ∃ d' F o a5 a6 a7 a8, ρ = [.io d', .dat (.lst [.str n0, .str n1, .str n2]), .dat (.lst (ws.map D.str)), .own (.lst F), .own (.lst (o.map D.str)), a5, a6, a7, a8] ∧ Urn (n + 50 + 5 * i) d' ∧ F.length ≤ i + 1 ∧ o.length ≤ i + 1 ∧ (∀ x ∈ F, Lw x) ∧ spec (.tup F) = some o ∧ ∀ x ∈ o, Nm (.str x)) ⟨d3, _, [n0], _, _, _, _, rfl, hU3.mono (by omega), by simp, by simp, ?_, ?_, ?_⟩ ?_ ?_
  · intro x hx
    rw [List.mem_singleton.mp hx]
    exact lw2 (by simp) (hN.nm _ (by simp))
  · have h1 := (lw2 (w := "enter") (x := n0) (by simp) (hN.nm _ (by simp))).il
    show (if [D.tup [.str "enter", .str n0]].all isLine = true ∧ wdOf _ = "enter" then go [nmOf _] [] else none) = _
    rw [if_pos ⟨by rw [List.all_cons, h1]; rfl, rfl⟩]
    rfl
  · intro x hx
    rw [List.mem_singleton.mp hx]
    exact hN.nm _ (by simp)
  · rintro ρ' ⟨d', F, o, a5, a6, a7, a8, rfl, hU', hF, ho, hL, hS, hO⟩
    rw [upTo_len] at hU' hF ho
    simp
    exact h F o d' (by omega) (by omega) hL hO hS (hU'.mono (by omega))
  · rintro i dd ρ' e ⟨d', F, o, a5, a6, a7, a8, rfl, hU', hF, ho, hL, hS, hO⟩
    obtain ⟨hi, rfl⟩ := upTo_get e
    simp
    refine take_on hU' (by decide) (by decide) (by omega) fun way d4 w0 w1 hU4 => ?_
    have sz0 : (0 : Nat) ≤ sizeLine := by have := sz16; omega
    have fin : ∀ (d2 : D) (F2 : List D) (o2 : List Str), Urn (n + 50 + 5 * (i + 1)) d2 → F2.length ≤ i + 1 + 1 → o2.length ≤ i + 1 + 1 → (∀ x ∈ F2, Lw x) → spec (.tup F2) = some o2 → (∀ x ∈ o2, Nm (.str x)) →
        ∃ d' F_1 o_1, (d2 = d' ∧ F2 = F_1 ∧ List.map D.str o2 = List.map D.str o_1) ∧ Urn (n + 50 + 5 * (i + 1)) d' ∧ F_1.length ≤ i + 1 + 1 ∧ o_1.length ≤ i + 1 + 1 ∧ (∀ x : D, x ∈ F_1 → Lw x) ∧ spec (D.tup F_1) = some o_1 ∧ ∀ x : Str, x ∈ o_1 → Nm (D.str x) :=
      fun d2 F2 o2 h1 h2 h3 h4 h5 h6 => ⟨d2, F2, o2, ⟨rfl, rfl, rfl⟩, h1, h2, h3, h4, h5, h6⟩
    have snoc : ∀ {x : D} (y : D), Lw y → x ∈ F ++ [y] → Lw x := fun y hy hx => by
      rcases List.mem_append.mp hx with z | z
      · exact hL _ z
      · rw [List.mem_singleton.mp z]; exact hy
    have sF : F.length < sizeLine := by have := sz16; omega
    have sO : o.length < sizeLine := by have := sz16; omega
    have sz1 : ∀ k : Nat, k ≤ 10 → k ≤ sizeLine := fun k hk => by have := sz16; omega
    simp [strsE o hO, sz0]
    by_cases ho0 : o = []
    · simp [ho0]
      have hS' := hS
      rw [ho0] at hS'
      have z := fin d4 F [] (hU4.mono (by omega)) (by omega) (by simp) hL hS' (fun x hx => by cases hx)
      simpa using z
    · simp [ho0]
      by_cases hw : way < 2
      · simp [hw]
        refine one_on hU4 (by simp) (by simp) (by omega) fun x d5 hx hU5 => ?_
        obtain ⟨z, hz, rfl⟩ : ∃ z : Str, Nm (.str z) ∧ x = .str z := by
          simp only [List.mem_cons, List.not_mem_nil, or_false] at hx
          rcases hx with rfl | rfl | rfl
          · exact ⟨_, hN.nm _ (by simp), rfl⟩
          · exact ⟨_, hN.nm _ (by simp), rfl⟩
          · exact ⟨_, hN.nm _ (by simp), rfl⟩
        have al : atI (o.map D.str ++ [.str z]) (-1) = some (.str z) := atI_last _ _
        simp [sO, al, sF, sz1]
        have hs := spec_snoc (l := .tup [.str "enter", .str z]) hS (lw2 (by simp) hz).il (by
          intro h1
          rcases h1 with h1 | h1
          · exact ho0 h1
          · exact en_ne h1.1)
        have es : stepC o (.tup [.str "enter", .str z]) = o ++ [z] := by
          unfold stepC
          rw [if_pos (show wdOf (.tup [.str "enter", .str z]) = "enter" from rfl)]
          rfl
        rw [es] at hs
        have zz := fin d5 (F ++ [.tup [.str "enter", .str z]]) (o ++ [z]) (hU5.mono (by omega)) (by simp; omega) (by simp; omega) (fun x hx => snoc _ (lw2 (by simp) hz) hx) hs (fun x hx => by
          rcases List.mem_append.mp hx with q1 | q1
          · exact hO x q1
          · rw [List.mem_singleton.mp q1]; exact hz)
        simpa using zz
      · simp [hw]
        obtain ⟨c0, z, rfl⟩ : ∃ c0 z, o = c0 ++ [z] := by
          rcases List.eq_nil_or_concat o with z | ⟨c0, z, hz⟩
          · exact absurd z ho0
          · exact ⟨c0, z, by rw [hz, List.concat_eq_append]⟩
        have hz : Nm (.str z) := hO z (by simp)
        -- a line that is said or asked
        have saidE : ∀ (w : Str) (nm : Str) (rest : List D), w ≠ "leave" → w ≠ "enter" → Lw (.tup (.str w :: .str nm :: rest)) → ∀ dd, Urn (n + 50 + 5 * (i + 1)) dd → 
            ∃ d' F_1 o_1, (dd = d' ∧ F ++ [.tup (.str w :: .str nm :: rest)] = F_1 ∧ List.map D.str (c0 ++ [z]) = List.map D.str o_1) ∧ Urn (n + 50 + 5 * (i + 1)) d' ∧ F_1.length ≤ i + 1 + 1 ∧ o_1.length ≤ i + 1 + 1 ∧ (∀ x : D, x ∈ F_1 → Lw x) ∧ spec (D.tup F_1) = some o_1 ∧ ∀ x : Str, x ∈ o_1 → Nm (D.str x) := fun w nm rest h1 h2 hl dd hU => by
          have hs := spec_snoc (l := .tup (.str w :: .str nm :: rest)) hS hl.il (by
            rintro (q1 | q1)
            · exact ho0 q1
            · exact h1 q1.1)
          have es : stepC (c0 ++ [z]) (.tup (.str w :: .str nm :: rest)) = c0 ++ [z] := by
            unfold stepC
            rw [if_neg (show ¬ wdOf (.tup (.str w :: .str nm :: rest)) = "enter" from h2), if_neg (show ¬ wdOf (.tup (.str w :: .str nm :: rest)) = "leave" from h1)]
          rw [es] at hs
          exact fin dd _ (c0 ++ [z]) hU (by simp; omega) (by omega) (fun x hx => snoc _ hl hx) hs hO
        have szp : c0.length + 1 ≤ sizeLine := by simp at ho; have := sz16; omega
        by_cases hw4 : way < 4
        · simp [hw4, szp]
          by_cases h1 : 0 < c0.length
          · rw [if_pos (by omega)]
            have hpz : hPop (c0.map D.str ++ [.str z]) = some (.str z, c0.map D.str) := hPop_snoc
            simp [hpz, sz1, sF, szp]
            have hl := lw2 (w := "leave") (by simp) hz
            have hs := spec_snoc (l := .tup [.str "leave", .str z]) hS hl.il (by
              intro h1
              rcases h1 with h1 | h1
              · exact ho0 h1
              · exact h1.2 (by simp; rfl))
            have es : stepC (c0 ++ [z]) (.tup [.str "leave", .str z]) = c0 := by
              unfold stepC
              rw [if_neg (show ¬ wdOf (.tup [.str "leave", .str z]) = "enter" from le_ne), if_pos (show wdOf (.tup [.str "leave", .str z]) = "leave" from rfl)]
              simp
            rw [es] at hs
            have zz := fin d4 (F ++ [.tup [.str "leave", .str z]]) c0 (hU4.mono (by omega)) (by simp; omega) (by simp at ho; omega) (fun x hx => snoc _ hl hx) hs (fun x hx => hO x (by simp [hx]))
            simpa using zz

          · rw [if_neg (by omega)]
            refine take_on hU4 (by decide) (by decide) (by omega) fun k3 d5 k30 k31 hU5 => ?_
            try simp
            by_cases h3 : k3 = 0
            · simp [h3]
              have hpz : hPop (c0.map D.str ++ [.str z]) = some (.str z, c0.map D.str) := hPop_snoc
              simp [hpz, sz1, sF, szp]
              have hl := lw2 (w := "leave") (by simp) hz
              have hs := spec_snoc (l := .tup [.str "leave", .str z]) hS hl.il (by
                intro h1
                rcases h1 with h1 | h1
                · exact ho0 h1
                · exact h1.2 (by simp; rfl))
              have es : stepC (c0 ++ [z]) (.tup [.str "leave", .str z]) = c0 := by
                unfold stepC
                rw [if_neg (show ¬ wdOf (.tup [.str "leave", .str z]) = "enter" from le_ne), if_pos (show wdOf (.tup [.str "leave", .str z]) = "leave" from rfl)]
                simp
              rw [es] at hs
              have zz := fin d5 (F ++ [.tup [.str "leave", .str z]]) c0 (hU5.mono (by omega)) (by simp; omega) (by simp at ho; omega) (fun x hx => snoc _ hl hx) hs (fun x hx => hO x (by simp [hx]))
              simpa using zz

            · simp [h3]
              have hne := strsE (c0 ++ [z]) hO
              simp at hne
              try simp [hne]
              refine one_on hU5 (by intro z0; rw [List.map_eq_nil_iff] at z0; rw [z0] at hl2; cases hl2) (by simp [hl2]) (by omega) fun x d7 hx hU7 => ?_
              obtain ⟨wd, hwd, rfl⟩ := List.mem_map.mp hx
              have hwn := hN2.nm wd hwd
              try simp
              refine take_on hU7 (by decide) (by decide) (by omega) fun num d8 k0 k1 hU8 => ?_
              simp [sz1]
              refine one_on hU8 (by simp) (by simp) (by omega) fun y d9 hy hU9 => ?_
              have hU10 : Urn (n + 50 + 5 * (i + 1)) d9 := hU9.mono (by omega)
              simp at hy
              simp [sF]
              rcases hy with rfl | rfl | rfl
              · have zz := saidE "say" wd [] (by decide +kernel) (by decide +kernel) (lw2 (by simp) hwn) d9 hU10
                simpa using zz
              · have zz := saidE "say" wd [.int num] (by decide +kernel) (by decide +kernel) (lw3 (by simp) hwn k0 k1) d9 hU10
                simpa using zz
              · have zz := saidE "ask" wd [.int num] (by decide +kernel) (by decide +kernel) (lw3 (by simp) hwn k0 k1) d9 hU10
                simpa using zz

        · simp [hw4]
          have hne := strsE (c0 ++ [z]) hO
          simp at hne
          try simp [hne]
          refine one_on hU4 (by intro z0; rw [List.map_eq_nil_iff] at z0; rw [z0] at hl2; cases hl2) (by simp [hl2]) (by omega) fun x d7 hx hU7 => ?_
          obtain ⟨wd, hwd, rfl⟩ := List.mem_map.mp hx
          have hwn := hN2.nm wd hwd
          try simp
          refine take_on hU7 (by decide) (by decide) (by omega) fun num d8 k0 k1 hU8 => ?_
          simp [sz1]
          refine one_on hU8 (by simp) (by simp) (by omega) fun y d9 hy hU9 => ?_
          have hU10 : Urn (n + 50 + 5 * (i + 1)) d9 := hU9.mono (by omega)
          simp at hy
          simp [sF]
          rcases hy with rfl | rfl | rfl
          · have zz := saidE "say" wd [] (by decide +kernel) (by decide +kernel) (lw2 (by simp) hwn) d9 hU10
            simpa using zz
          · have zz := saidE "say" wd [.int num] (by decide +kernel) (by decide +kernel) (lw3 (by simp) hwn k0 k1) d9 hU10
            simpa using zz
          · have zz := saidE "ask" wd [.int num] (by decide +kernel) (by decide +kernel) (lw3 (by simp) hwn k0 k1) d9 hU10
            simpa using zz

end
end VS

namespace VS
open PySem PySem.Spec PyProof.Rows L2
section
variable {cov : Value → Value → Option Bool} {E_InvalidLog : Value}
/-- what is judged -/
structure Val (x : D) : Prop where
  v : Vl 200000 10 x
  c : ∀ ds, x = .tup ds → nodc x = true
structure It (x : D) : Prop where
  v : Vl 400 2 x
  n : nodc x = true
theorem It.val {x : D} (h : It x) : Val x := ⟨h.v.mono (by decide) (by decide), fun _ _ => h.n⟩
theorem Lw.it {x : D} (h : Lw x) : It x := ⟨h.v.mono (by decide) (by decide), h.n⟩
theorem Val.cl {x : D} (h : Val x) : ∀ ds, x = .tup ds → Cl x := fun ds e => by
  obtain ⟨p, h1, h2, h3⟩ := good_py x h.v.g (h.c ds e)
  exact ⟨p, h1, h2, Nat.le_trans h3 (Nat.le_trans h.v.h (by decide))⟩
theorem it_of {x : D} (h : (vlB 400 2 x && nodc x) = true) : It x := by
  rw [Bool.and_eq_true] at h
  exact ⟨vl_of h.1, h.2⟩
theorem val_tup {ds : List D} (h : ∀ d ∈ ds, It d) (hl : ds.length ≤ 200) : Val (.tup ds) := by
  have w := wtAll_le (a := ds) (m := 400) (l := 200) (fun d hd => (h d hd).v.w) hl
  refine ⟨(vl_tup (fun d hd => ⟨(h d hd).v.g, (h d hd).v.h⟩) w).mono (by decide) (by decide), fun _ _ => ?_⟩
  unfold nodc
  exact nodcAll_iff.mpr fun d hd => (h d hd).n
theorem val_lst {ds : List D} (h : ∀ d ∈ ds, It d) (hl : ds.length ≤ 200) : Val (.lst ds) := by
  have w := wtAll_le (a := ds) (m := 400) (l := 200) (fun d hd => (h d hd).v.w) hl
  exact ⟨(vl_lst (fun d hd => ⟨(h d hd).v.g, (h d hd).v.h⟩) w).mono (by decide) (by decide), fun _ e => by cases e⟩
theorem str_of {w : Str} {ds : List D} {m j : Nat} (h : Vl m j (.tup ds)) (hm : (.str w) ∈ ds) : good (.str w) = true ∧ w.length ≤ m := by
  have g := h.g
  unfold good at g
  refine ⟨goodAll_iff.mp g _ hm, ?_⟩
  have w1 := h.w
  unfold wt at w1
  have : ∀ (l : List D), (.str w) ∈ l → w.length ≤ wtAll l := by
    intro l
    induction l with
    | nil => intro h; cases h
    | cons d l ih =>
      intro h
      rw [wtAll_cons]
      rcases List.mem_cons.mp h with e | e
      · rw [← e]
        unfold wt
        omega
      · have := ih e
        omega
  exact Nat.le_trans (this ds hm) w1
theorem it2 {w x : Str} (hw : good (.str w) = true) (lw : w.length ≤ 300) (hx : good (.str x) = true) (lx : x.length ≤ 300) (hl : w.length ≤ 8 ∨ x.length ≤ 8) : It (.tup [.str w, .str x]) := by
  refine ⟨vl_tup (fun d hd => ?_) ?_, by unfold nodc nodcAll nodc nodcAll nodc nodcAll; rfl⟩
  · simp only [List.mem_cons, List.not_mem_nil, or_false] at hd
    rcases hd with rfl | rfl
    · exact ⟨hw, by unfold dp; omega⟩
    · exact ⟨hx, by unfold dp; omega⟩
  · rw [wtAll_cons, wtAll_cons, wtAll_nil]
    unfold wt
    omega
theorem cut_len' {xs : List D} {lo hi : Option Int} : (cutD xs lo hi).length ≤ xs.length := by
  unfold cutD
  rw [List.length_take, List.length_drop]
  omega
theorem ifo {o : List Str} {A : D → Prop} {B : Prop} (hB : o = [] → A (.lst []) → B) (h : A (.lst (o.map D.str))) : if (!(o.map D.str).isEmpty) = true then A (.lst (o.map D.str)) else B := by
  cases o with
  | nil => exact hB rfl h
  | cons x o => exact h
theorem near_on {n : Nat} {d : D} {F : List D} {o : List Str} {q : D → D → Prop} {r : Ex → D → Prop} (hU : Urn n d) (hn : n ≤ 2 ^ 27) (hF : F.length ≤ 24) (ho : o.length ≤ 24) (hL : ∀ x ∈ F, Lw x) (hO : ∀ x ∈ o, Nm (.str x)) (hS : spec (.tup F) = some o)
    (h : ∀ (xs : List D) (d' : D), (∀ x ∈ xs, Val x) → xs.length ≤ 40 → Urn (n + 100) d' → q (.lst xs) d') : onU (F__law_near (some d) [.tup F]) q r := by
  refine onU_run rfl ?_
  unfold M__law_near
  have z : ∀ k : Nat, k ≤ 1000 → k ≤ sizeLine := fun k hk => by have := sz16; omega
  obtain ⟨l0, h0, hp⟩ : ∃ l, F[0]? = some l ∧ 0 < F.length := by
    cases F with
    | nil => cases hS
    | cons l F' => exact ⟨l, rfl, by simp⟩
  have h00 : atI F 0 = some l0 := atI_nat (j := 0) h0
  simp
  refine take_on hU (by omega) (by omega) (by omega) fun at_ d1 a0 a1 hU1 => ?_
  try simp
  refine take_on hU1 (by omega) (by omega) (by omega) fun to d2 b0 b1 hU2 => ?_
  try simp
  obtain ⟨j, rfl⟩ := Int.eq_ofNat_of_zero_le a0
  have hj : j < F.length := by omega
  rw [atI_nat (List.getElem?_eq_getElem hj)]
  have lj := hL _ (List.getElem_mem hj)
  obtain ⟨w, nm, rest, ej, hr, ew, en⟩ := line_shape lj.il
  have l0w := hL l0 (List.mem_of_getElem? h0)
  obtain ⟨w0, nm0, rest0, e0, hr0, ew0, en0⟩ := line_shape l0w.il
  rw [ej]
  rw [ej] at lj
  rw [e0] at h00 l0w
  simp
  refine name_on hU2 (by omega) fun x d3 x0 x1 hx hU3 => ?_
  have nx : Nm (.str (tx x)) := ⟨x, rfl, x0, x1, hx⟩
  have c1 : ∀ lo hi : Option Int, (cutD F lo hi).length ≤ 24 := fun lo hi => Nat.le_trans cut_len' hF
  have k1 := c1 none (some (j : Int))
  have k2 := c1 (some ((j : Int) + 1)) none
  have k3 := c1 (some (j : Int)) none
  have k4 := c1 none (some to)
  have k5 := c1 (some to) none
  simp [h00, z]
  obtain ⟨rst, hrst⟩ : ∃ rst, rst = cutD F none (some (j : Int)) ++ cutD F (some ((j : Int) + 1)) none := ⟨_, rfl⟩
  have lrst : rst.length ≤ 48 := by rw [hrst, List.length_append]; omega
  have k6 := Nat.le_trans (cut_len' (xs := rst) (lo := none) (hi := some to)) lrst
  have k7 := Nat.le_trans (cut_len' (xs := rst) (lo := some to) (hi := none)) lrst
  rw [← hrst]
  refine ⟨z _ (by omega), ?_⟩
  refine one_on hU3 (by simp) (by simp) (by omega) fun odd d4 hodd hU4 => ?_
  refine one_on hU4 (by simp) (by simp) (by omega) fun none_ d5 hnone hU5 => ?_
  refine ⟨z _ (by omega), z _ (by omega), z _ (by omega), z _ (by omega), z _ (by omega), z _ (by omega), z _ (by omega), z _ (by omega), z _ (by omega), z _ (by omega), ?_⟩
  have VF : Val (.tup F) := val_tup (fun x hx => (hL x hx).it) (by omega)
  refine openIn_on VF.v.gd (by decide) VF.cl ?_
  rw [hS]
  simp only [res, dTru_lst, onOB_some]
  refine ifo (A := fun d => wp (Mo.lift (dRev d)) _ _ _) (fun e hA => ?_) ?_
  · rw [dRev_lst, wp_some, dItems_lst, wp_some] at hA
    exact hA
  rw [dRev_lst, wp_some, dItems_lst, wp_some]
  refine lc_pure (fun _ => true) (fun d => .tup [.str "leave", d]) (by simp; omega) (fun d hd => ?_) ?_
  · refine ⟨_, rfl, ?_⟩
    simp [z]
  rw [List.filter_eq_self.mpr (fun _ _ => rfl)]
  obtain ⟨lv, hlv⟩ : ∃ lv, lv = List.map (fun d => D.tup [.str "leave", d]) (List.map D.str o).reverse := ⟨_, rfl⟩
  have llv : lv.length ≤ 24 := by rw [hlv]; simp; exact ho
  have vlv : ∀ x ∈ lv, It x := fun x hx => by
    rw [hlv] at hx
    obtain ⟨y, hy, rfl⟩ := List.mem_map.mp hx
    rw [List.mem_reverse] at hy
    obtain ⟨n1, hn1, rfl⟩ := List.mem_map.mp hy
    exact (lw2 (by simp) (hO n1 hn1)).it
  rw [← hlv]
  simp
  refine ⟨z _ (by omega), z _ (by omega), z _ (by omega), z _ (by omega), ?_⟩
  refine ⟨z _ (by decide), h _ d5 ?_ (by simp) (hU5.mono (by omega))⟩
  have IF : ∀ y ∈ F, It y := fun y hy => (hL y hy).it
  have IC : ∀ lo hi : Option Int, ∀ y ∈ cutD F lo hi, It y := fun lo hi y hy => IF y (cut_mem' hy)
  have IR : ∀ y ∈ rst, It y := fun y hy => by
    rw [hrst] at hy
    rcases List.mem_append.mp hy with q1 | q1
    · exact IC _ _ y q1
    · exact IC _ _ y q1
  have IRC : ∀ lo hi : Option Int, ∀ y ∈ cutD rst lo hi, It y := fun lo hi y hy => IR y (cut_mem' hy)
  have IJ : It (D.tup (D.str w :: D.str nm :: rest)) := lj.it
  have IX : It (.str (tx x)) := by
    obtain ⟨g, hl⟩ := nm_vl nx
    exact ⟨⟨g, by unfold wt; omega, by unfold dp; omega⟩, by unfold nodc; rfl⟩
  have gx : good (.str (tx x)) = true ∧ (tx x).length ≤ 300 := ⟨(nm_vl nx).1, Nat.le_trans (nm_vl nx).2 (by decide)⟩
  have IO : It odd := by
    simp only [List.mem_cons, List.not_mem_nil, or_false] at hodd
    rcases hodd with rfl | rfl | rfl | rfl | rfl
    · exact (lw2 (by simp) nx).it
    · exact (lw2 (by simp) nx).it
    · exact (lw2 (by simp) nx).it
    · obtain ⟨g, l⟩ := str_of (w := nm0) l0w.v (by simp)
      exact it2 (by decide +kernel) (by decide +kernel) g l (.inl (by decide +kernel))
    · obtain ⟨g, l⟩ := str_of (w := w) lj.v (by simp)
      exact it2 g l gx.1 gx.2 (.inr (nm_vl nx).2)
  have INo : It none_ := by
    simp only [List.mem_cons, List.not_mem_nil, or_false] at hnone
    rcases hnone with rfl | rfl | rfl | rfl | rfl | rfl | rfl | rfl | rfl
    · exact it_of (by decide +kernel)
    · exact it_of (by decide +kernel)
    · exact it_of (by decide +kernel)
    · exact it_of (by decide +kernel)
    · have v := lj.v
      have n := lj.n
      refine ⟨⟨?_, ?_, ?_⟩, ?_⟩
      · have := v.g
        unfold good at this ⊢
        exact this
      · have := v.w
        unfold wt at this ⊢
        omega
      · have := v.h
        unfold dp at this ⊢
        omega
      · unfold nodc at n ⊢
        exact n
    · exact it_of (by decide +kernel)
    · exact it_of (by decide +kernel)
    · exact it_of (by decide +kernel)
    · exact it_of (by decide +kernel)
  have app : ∀ {a b : List D}, (∀ y ∈ a, It y) → (∀ y ∈ b, It y) → ∀ y ∈ a ++ b, It y := fun ha hb y hy => (List.mem_append.mp hy).elim (ha y) (hb y)
  have con : ∀ {a : D} {b : List D}, It a → (∀ y ∈ b, It y) → ∀ y ∈ a :: b, It y := fun ha hb y hy => (List.mem_cons.mp hy).elim (fun e => e ▸ ha) (hb y)
  have nil : ∀ y ∈ ([] : List D), It y := fun y hy => by cases hy
  have ISA : It (D.tup [D.str (Str.ofString "say"), D.str (Str.ofString "a")]) := it_of (by decide +kernel)
  have IEX : It (D.tup [D.str (Str.ofString "enter"), D.str (tx x)]) := (lw2 (by simp) nx).it
  have IFL : ∀ y ∈ F ++ lv, It y := app IF vlv
  intro y hy
  simp only [List.mem_cons, List.not_mem_nil, or_false] at hy
  have L : ∀ {a : List D} {k : Nat}, k ≤ 200 → a.length = k → a.length ≤ 200 := fun h1 h2 => by omega
  rcases hy with rfl | rfl | rfl | rfl | rfl | rfl | rfl | rfl | rfl | rfl | rfl | rfl | rfl | rfl | rfl | rfl | rfl | rfl | rfl | rfl | rfl | rfl | rfl | rfl | rfl
  · exact VF
  · exact val_lst IF (by omega)
  · exact val_tup IR (by omega)
  · exact val_tup (app (IC _ _) (con IJ (IC _ _))) (by simp; omega)
  · exact val_tup (app (IRC _ _) (con IJ (IRC _ _))) (by simp; omega)
  · exact val_tup (IC _ _) (by omega)
  · exact val_tup (IC _ _) (by omega)
  · exact val_tup (app (IC _ _) (con IO (IC _ _))) (by simp; omega)
  · exact val_tup (app (IC _ _) (con INo (IC _ _))) (by simp; omega)
  · exact val_tup (fun y hy => IF y (List.mem_reverse.mp hy)) (by simp; omega)
  · exact val_tup (app IF IF) (by simp; omega)
  · exact val_tup (app IF (con IO nil)) (by simp; omega)
  · exact val_tup IFL (by simp; omega)
  · exact val_tup (app IF (app vlv (con ISA nil))) (by simp; omega)
  · exact val_tup (app IF (app vlv (con IEX nil))) (by simp; omega)
  · exact val_tup (app IF (app vlv vlv)) (by simp; omega)
  · exact val_tup (fun y hy => IFL y (cut_mem' hy)) (Nat.le_trans cut_len' (by simp; omega))
  · exact val_tup (con IO nil) (by simp)
  · exact val_tup (con INo nil) (by simp)
  · exact IJ.val
  · exact (it_of (by decide +kernel)).val
  · exact (it_of (by decide +kernel)).val
  · exact ⟨vl_of (by decide +kernel), fun _ e => by cases e⟩
  · exact (it_of (by decide +kernel)).val
  · have v1 := lj.v
    have n1 := lj.n
    refine ⟨(vl_tup (m := 400) (j := 2) (fun d hd => ?_) ?_).mono (by decide) (by decide), fun _ _ => ?_⟩
    · rw [List.mem_singleton.mp hd]
      have v2 := vl_tup (m := 302) (j := 1) (ds := [D.tup (D.str w :: D.str nm :: rest)]) (fun d hd => by rw [List.mem_singleton.mp hd]; exact ⟨v1.g, v1.h⟩) (by rw [wtAll_cons, wtAll_nil]; have := v1.w; omega)
      exact ⟨v2.g, v2.h⟩
    · rw [wtAll_cons, wtAll_nil]
      have := v1.w
      conv => lhs; unfold wt
      rw [wtAll_cons, wtAll_nil]
      omega
    · unfold nodc nodcAll nodc nodcAll
      rw [n1]
      rfl

end
end VS

namespace VS
open PySem PySem.Spec PyProof.Rows L2
section
variable {cov : Value → Value → Option Bool} {E_InvalidLog : Value}
theorem dNe_bl (a b : Bool) : dNe (.bl a) (.bl b) = some (.bl (a != b)) := by cases a <;> cases b <;> rfl
theorem dEq_bl (a b : Bool) : dEq (.bl a) (.bl b) = some (.bl (a == b)) := by cases a <;> cases b <;> rfl
theorem isName_good {x : Str} (h : isName (.str x) = true) : good (.str x) = true ∧ x.length ≤ 8 := by
  unfold isName at h
  rw [Bool.and_eq_true, Bool.and_eq_true] at h
  refine ⟨?_, of_decide_eq_true h.1.2⟩
  unfold good
  rw [List.all_eq_true] at h ⊢
  intro c hc
  have := h.2 c hc
  unfold okc at this
  rw [Bool.and_eq_true] at this
  have := of_decide_eq_true this.2
  exact decide_eq_true (by omega)
theorem line_nm {l : D} (h : isLine l = true) : isName (.str (nmOf l)) = true ∧ (nmOf l).length + 1 ≤ wt l := by
  obtain ⟨w, n, rest, rfl, hr, ew, en⟩ := line_shape h
  rw [en]
  refine ⟨?_, ?_⟩
  · unfold isLine at h
    split at h
    · rename_i a b e
      cases e
      rw [Bool.and_eq_true] at h
      exact h.1
    · rename_i a b k e
      cases e
      rw [Bool.and_eq_true] at h
      exact h.1
    · cases h
  · conv => rhs; unfold wt
    rw [wtAll_cons, wtAll_cons]
    conv => rhs; unfold wt
    omega
theorem go_nice : ∀ (L : List D) (c c' : List Str), (∀ x ∈ L, isLine x = true) → go c L = some c' → (∀ x ∈ c, isName (.str x) = true) → (∀ x ∈ c', isName (.str x) = true) ∧ wtAll (c'.map D.str) ≤ wtAll (c.map D.str) + wtAll L
  | [], c, c', _, h, hc => by cases h; exact ⟨hc, by rw [wtAll_nil]; omega⟩
  | l :: L, c, c', hL, h, hc => by
    rw [go_cons] at h
    split at h
    · cases h
    · have hl := hL l (by simp)
      obtain ⟨n1, n2⟩ := line_nm hl
      have step : (∀ x ∈ stepC c l, isName (.str x) = true) ∧ wtAll ((stepC c l).map D.str) ≤ wtAll (c.map D.str) + (wt l + 1) := by
        unfold stepC
        split
        · refine ⟨fun x hx => ?_, ?_⟩
          · rcases List.mem_append.mp hx with z | z
            · exact hc x z
            · rw [List.mem_singleton.mp z]; exact n1
          · rw [List.map_append, wtAll_app, List.map_cons, List.map_nil, wtAll_cons, wtAll_nil]
            conv => lhs; unfold wt
            omega
        · split
          · refine ⟨fun x hx => hc x (List.dropLast_subset _ hx), ?_⟩
            have : ∀ c : List Str, wtAll (c.dropLast.map D.str) ≤ wtAll (c.map D.str) := fun c => by
              rcases List.eq_nil_or_concat c with rfl | ⟨a, b, rfl⟩
              · exact Nat.le_refl _
              · rw [List.concat_eq_append, List.dropLast_concat, List.map_append, wtAll_app]
                omega
            have := this c
            omega
          · exact ⟨hc, by omega⟩
      obtain ⟨g1, g2⟩ := go_nice L _ c' (fun x hx => hL x (List.mem_cons_of_mem _ hx)) h step.1
      refine ⟨g1, ?_⟩
      rw [wtAll_cons]
      omega
theorem spec_vl {v : D} {c : List Str} {m j : Nat} (hv : Vl m j v) (h : spec v = some c) : Vl m 1 (.tup (c.map D.str)) := by
  cases v with
  | tup ds =>
    cases ds with
    | nil => cases h
    | cons l ls =>
      have h : (if (l :: ls).all isLine = true ∧ wdOf l = "enter" then go [nmOf l] ls else none) = some c := h
      split at h
      · rename_i hc
        have ha := List.all_eq_true.mp hc.1
        obtain ⟨n1, n2⟩ := line_nm (ha l (by simp))
        obtain ⟨g1, g2⟩ := go_nice ls _ c (fun x hx => ha x (List.mem_cons_of_mem _ hx)) h (fun x hx => by rw [List.mem_singleton.mp hx]; exact n1)
        refine vl_tup (j := 0) (fun d hd => ?_) ?_
        · obtain ⟨x, hx, rfl⟩ := List.mem_map.mp hd
          exact ⟨(isName_good (g1 x hx)).1, by unfold dp; omega⟩
        · have hw := hv.w
          unfold wt at hw
          rw [wtAll_cons] at hw
          rw [List.map_cons, List.map_nil, wtAll_cons, wtAll_nil] at g2
          conv at g2 => rhs; unfold wt
          omega
      · cases h
  | _ => cases h
theorem right_on {n : Nat} {d : D} {q : D → D → Prop} {r : Ex → D → Prop} (hv : cov E_InvalidLog E_InvalidLog = some true) (hU : Urn n d) (hn : n ≤ 2 ^ 26) (h : ∀ (d' : D), Urn (n + 400) d' → q (.bl true) d') : onU ((F__law_right cov E_InvalidLog) (some d) []) q r := by
  refine onU_run rfl ?_
  unfold M__law_right
  simp
  refine log_on hU (by omega) fun F o d1 hF ho hL hO hS hU1 => ?_
  try simp
  refine near_on hU1 (by omega) hF ho hL hO hS fun xs d2 hx lx hU2 => ?_
  have VF : Val (.tup F) := val_tup (fun x hx => (hL x hx).it) (by omega)
  have szx : xs.length + 1 ≤ sizeLine := by have := sz16; omega
  have sz1 : (1 : Nat) ≤ sizeLine := by have := sz16; omega
  have sz0 : (0 : Nat) ≤ sizeLine := by have := sz16; omega
  simp [szx, sz1]
  have v0 : Vl 10 10 (.tup []) := vl_of (by decide +kernel)
  have n0 : spec (.tup []) = none := rfl
  refine wp_for (I := fun i ρ => ∃ a2 a3 a4, ρ = [.io d2, .dat (.tup F), a2, a3, a4]) ⟨_, _, _, rfl⟩ ?_ ?_
  · rintro ρ' ⟨a2, a3, a4, rfl⟩
    simp
    refine isLog_on VF.v.gd (by decide) ?_
    rw [hS]
    simp [sz0]
    refine isLog_on v0.gd (by decide) ?_
    rw [n0]
    simp
    refine refused_on hv v0.gd (by decide) ?_
    rw [n0]
    simp
    exact h d2 (hU2.mono (by omega))
  · rintro i v ρ' e ⟨a2, a3, a4, rfl⟩
    have hv2 : Val v := by
      have z := List.mem_of_getElem? e
      rcases List.mem_append.mp z with z | z
      · exact hx v z
      · rw [List.mem_singleton.mp z]; exact VF
    obtain ⟨t, et⟩ := hv2.v.repr
    simp
    refine openIn_on hv2.v.gd (by decide) hv2.cl ?_
    simp [et]
    refine isLog_on hv2.v.gd (by decide) ?_
    cases es : spec v with
    | none =>
      simp [dNotN, isNon_res, dNe_bl]
      refine refused_on hv hv2.v.gd (by decide) ?_
      rw [es]
      simp [dIsN, isNon_res, dNe_bl, res, isNon, et]
    | some c =>
      obtain ⟨t2, et2⟩ := (spec_vl hv2.v es).repr
      simp [dNotN, isNon_res, dNe_bl]
      refine refused_on hv hv2.v.gd (by decide) ?_
      rw [es]
      simp [dIsN, isNon_res, dNe_bl, res, isNon, et]
      refine openCalls_on hv2.v.gd (by decide) (fun c2 ec => ?_) fun ec => ?_
      · rw [es] at ec
        cases ec
        simp [et2, et]
      · rw [es] at ec
        cases ec

end
end VS

namespace VS
open PySem PySem.Spec PyProof.Rows L2
section
variable {cov : Value → Value → Option Bool} {E_InvalidLog : Value}
def dE : D := .tup [.str (Str.ofString "enter"), .str (Str.ofString "p")]
def dLv : D := .tup [.str (Str.ofString "leave"), .str (Str.ofString "p")]
def dS : D := .tup [.str (Str.ofString "say"), .str (Str.ofString "a")]
def rep (n : Nat) (x : D) : List D := List.replicate n x
def deep : List D := rep 60 dE ++ dS :: rep 60 dLv
def deep120 : List D := rep 60 dE ++ dS :: rep 59 dLv
def deep119 : List D := rep 60 dE ++ dS :: rep 58 dLv
theorem cut120 : cutD deep none (some 120) = deep120 := by rfl
theorem cut119 : cutD deep none (some 119) = deep119 := by rfl
theorem cutL : cutD deep (some (-1)) none = [dLv] := by rfl
theorem cutF : cutD deep none (some 1) = [dE] := by rfl
theorem sp120 : spec (.tup deep120) = some [("p" : Str)] := by decide +kernel
theorem sp121 : spec (.tup deep) = some [] := by decide +kernel
theorem sp119 : spec (.tup deep119) = some [("p" : Str), "p"] := by decide +kernel
theorem spL : spec (.tup (deep ++ [dLv])) = none := by decide +kernel
theorem spF : spec (.tup (deep ++ [dE])) = none := by decide +kernel
theorem v120 : Vl 3000 5 (.tup deep120) := vl_of (by decide +kernel)
theorem v121 : Vl 3000 5 (.tup deep) := vl_of (by decide +kernel)
theorem v119 : Vl 3000 5 (.tup deep119) := vl_of (by decide +kernel)
theorem vL : Vl 3000 5 (.tup (deep ++ [dLv])) := vl_of (by decide +kernel)
theorem vF : Vl 3000 5 (.tup (deep ++ [dE])) := vl_of (by decide +kernel)
theorem mul60 {x : D} : dMul (.lst [x]) (.int 60) = some (.lst (rep 60 x)) := by
  show (if -(2 ^ 63) ≤ (60 : Int) ∧ (60 : Int) < 2 ^ 63 ∧ [x].length * (60 : Int).toNat ≤ sizeLine then some (D.lst (List.replicate (60 : Int).toNat [x]).flatten) else none) = _
  rw [if_pos ⟨by decide, by decide, by have := sz16; simp; omega⟩]
  rfl
theorem tolds : dEq (.lst [.bl true, .bl true, .bl false, .bl false]) (.lst [.bl true, .bl true, .bl false, .bl false]) = some (.bl true) := by rfl
theorem tolds2 : dEq (.lst [.int 2, .tup []]) (.lst [.int 2, .tup []]) = some (.bl true) := by rfl
theorem law_true (hv : cov E_InvalidLog E_InvalidLog = some true) : ∀ ns : List Int, ns.length ≤ 63 → (∀ z ∈ ns, Builtin.Int.intBits z ≤ 1048576) → (F_law cov E_InvalidLog) none [.scr ns] = .ok (.bl true) none := by
  intro ns hl hb
  refine run_eq (onF_run rfl ?_)
  unfold M_law
  have z : ∀ k : Nat, k ≤ 1000 → k ≤ sizeLine := fun k hk => by have := sz16; omega
  refine wp_seq (P := fun ρ' => ∃ a1 a4 a5, ρ' = [.dat (.scr ns), a1, .no, .no, a4, a5]) ?_ ?_
  · simp
    refine ⟨by constructor <;> (repeat' split) <;> omega, ?_⟩
    refine wp_for (I := fun i ρ => ∃ a1 a4 a5, ρ = [.dat (.scr ns), a1, .no, .no, a4, a5]) ⟨_, _, _, rfl⟩ (fun ρ' h => h) ?_
    rintro i d ρ' e ⟨a1, a4, a5, rfl⟩
    obtain ⟨hi, rfl⟩ := upTo_get e
    have hi' : i ≤ 100 := by
      revert hi
      (repeat' split) <;> omega
    simp
    refine urn_on hi' fun u hu => ?_
    try simp
    refine wp_for (I := fun j ρ => ∃ u a5, ρ = [.dat (.scr ns), .dat (.int i), .no, .no, .own u, a5] ∧ Urn (400 * j) u) ⟨u, _, rfl, hu⟩ ?_ ?_
    · rintro ρ' ⟨u, a5, rfl, _⟩
      exact ⟨_, _, _, rfl⟩
    · rintro j d ρ' e ⟨u, a5, rfl, hu⟩
      obtain ⟨hj, rfl⟩ := upTo_get e
      simp
      refine right_on hv hu (by omega) fun d' hu' => ?_
      simp
      exact hu'.mono (by omega)
  · rintro ρ' ⟨a1, a4, a5, rfl⟩
    have dl : deep.length = 121 := by rfl
    have rl : ∀ (n : Nat) (x : D), (rep n x).length = n := fun n x => by unfold rep; simp
    refine wp_seq (P := fun ρ' => ρ' = [.dat (.scr ns), a1, .dat (.tup deep), .no, a4, a5]) ?_ ?_
    · simp [z, mul60, rl]
      rfl
    · rintro ρ' rfl
      simp [z, dl]
      simp only [cut120, cut119, cutL, cutF]
      refine isLog_on v120.gd (by decide) ?_
      rw [sp120]
      refine isLog_on v121.gd (by decide) ?_
      rw [sp121]
      refine ⟨z _ (by decide), ?_⟩
      refine isLog_on vL.gd (by decide) ?_
      rw [spL]
      refine ⟨z _ (by decide), ?_⟩
      refine isLog_on vF.gd (by decide) ?_
      rw [spF]
      simp [tolds, z]
      simp only [cut119]
      refine openCalls_on v119.gd (by decide) (fun c ec => ?_) fun ec => ?_
      · rw [sp119] at ec
        cases ec
        simp [z]
        refine openCalls_on v121.gd (by decide) (fun c ec => ?_) fun ec => ?_
        · rw [sp121] at ec
          cases ec
          simp [tolds2]
        · rw [sp121] at ec
          cases ec
      · rw [sp119] at ec
        cases ec
theorem law_all (cov : Value → Value → Option Bool) (E_InvalidLog : Value) (hv : cov E_InvalidLog E_InvalidLog = some true) : ∀ ns : List Int, ns.length ≤ 63 → (∀ z ∈ ns, Builtin.Int.intBits z ≤ 1048576) → (F_law cov E_InvalidLog) none [.scr ns] = .ok (.bl true) none := law_true hv

end
end VS

open PySem PySem.W PyProof.Rows in
set_option maxRecDepth 100000 in
set_option maxHeartbeats 0 in
theorem PySem.Challenge.cw_showncalls_k02_logs_by_their_form_holds : PySem.Challenge.rw_showncalls_k02_logs_by_their_form.Holds := by
  w_on; o_law; k_head; (case hw => w_witness2)
  k_fill
  refine VS.walk_dataE (l := PySem.Challenge.rw_showncalls_k02_logs_by_their_form) (n := 63) (k := 7) (x := "script") rfl (by decide) rfl ⟨rfl, by decide, by decide⟩ (by decide +kernel) (fun w h Y => PySem.W.kIn_of Y) ?F
  case F =>
    intro w mg fa h KX G hmg
    refine' VS.all_mk KX G hmg ?a__law_urn ?l__law_urn ?c__law_urn ?k__law_urn ?a__law_take ?l__law_take ?c__law_take ?k__law_take ?a__law_name ?l__law_name ?c__law_name ?k__law_name ?a__law_names ?l__law_names ?c__law_names ?k__law_names ?a__law_one ?l__law_one ?c__law_one ?k__law_one ?a__law_log ?l__law_log ?c__law_log ?k__law_log ?a_is_name ?l_is_name ?c_is_name ?k_is_name ?a_is_number ?l_is_number ?c_is_number ?k_is_number ?a_is_line ?l_is_line ?c_is_line ?k_is_line ?a__law_open_in ?l__law_open_in ?c__law_open_in ?k__law_open_in ?a__law_near ?l__law_near ?c__law_near ?k__law_near ?a__calls_of ?l__calls_of ?c__calls_of ?k__calls_of ?a_is_log ?l_is_log ?c_is_log ?k_is_log ?a_open_calls ?l_open_calls ?c_open_calls ?k_open_calls ?a__law_refused ?l__law_refused ?c__law_refused ?k__law_refused ?a__law_right ?l__law_right ?c__law_right ?k__law_right ?a_law ?l_law ?c_law ?k_law ?n_InvalidLog ?eq_InvalidLog ?ep_InvalidLog ?es_InvalidLog ?et_InvalidLog ?ej_InvalidLog ?x_InvalidLog_InvalidLog ?z_abs ?z_all ?z_bool ?z_int ?z_isinstance ?z_len ?z_list ?z_max ?z_min ?z_range ?z_repr ?z_str ?z_tuple ?y_LARGEST_SIZE ?y_MOST_LETTERS VS.law_all
    (case a__law_urn => k_is)
    (case l__law_urn => k_is)
    (case c__law_urn => k_is)
    (case k__law_urn => k_is)
    (case a__law_take => k_is)
    (case l__law_take => k_is)
    (case c__law_take => k_is)
    (case k__law_take => k_is)
    (case a__law_name => k_is)
    (case l__law_name => k_is)
    (case c__law_name => k_is)
    (case k__law_name => k_is)
    (case a__law_names => k_is)
    (case l__law_names => k_is)
    (case c__law_names => k_is)
    (case k__law_names => k_is)
    (case a__law_one => k_is)
    (case l__law_one => k_is)
    (case c__law_one => k_is)
    (case k__law_one => k_is)
    (case a__law_log => k_is)
    (case l__law_log => k_is)
    (case c__law_log => k_is)
    (case k__law_log => k_is)
    (case a_is_name => k_is)
    (case l_is_name => k_is)
    (case c_is_name => k_is)
    (case k_is_name => k_is)
    (case a_is_number => k_is)
    (case l_is_number => k_is)
    (case c_is_number => k_is)
    (case k_is_number => k_is)
    (case a_is_line => k_is)
    (case l_is_line => k_is)
    (case c_is_line => k_is)
    (case k_is_line => k_is)
    (case a__law_open_in => k_is)
    (case l__law_open_in => k_is)
    (case c__law_open_in => k_is)
    (case k__law_open_in => k_is)
    (case a__law_near => k_is)
    (case l__law_near => k_is)
    (case c__law_near => k_is)
    (case k__law_near => k_is)
    (case a__calls_of => k_is)
    (case l__calls_of => k_is)
    (case c__calls_of => k_is)
    (case k__calls_of => k_is)
    (case a_is_log => k_is)
    (case l_is_log => k_is)
    (case c_is_log => k_is)
    (case k_is_log => k_is)
    (case a_open_calls => k_is)
    (case l_open_calls => k_is)
    (case c_open_calls => k_is)
    (case k_open_calls => k_is)
    (case a__law_refused => k_is)
    (case l__law_refused => k_is)
    (case c__law_refused => k_is)
    (case k__law_refused => k_is)
    (case a__law_right => k_is)
    (case l__law_right => k_is)
    (case c__law_right => k_is)
    (case k__law_right => k_is)
    (case a_law => k_is)
    (case l_law => k_is)
    (case c_law => k_is)
    (case k_law => k_is)
    (case n_InvalidLog => k_is)
    (case eq_InvalidLog => k_exc)
    (case ep_InvalidLog => k_is)
    (case es_InvalidLog => k_is)
    (case et_InvalidLog => k_is)
    (case ej_InvalidLog => k_is)
    (case x_InvalidLog_InvalidLog => k_is)
    (case z_abs => k_is)
    (case z_all => k_is)
    (case z_bool => k_is)
    (case z_int => k_is)
    (case z_isinstance => k_is)
    (case z_len => k_is)
    (case z_list => k_is)
    (case z_max => k_is)
    (case z_min => k_is)
    (case z_range => k_is)
    (case z_repr => k_is)
    (case z_str => k_is)
    (case z_tuple => k_is)
    (case y_LARGEST_SIZE => k_is)
    (case y_MOST_LETTERS => k_is)
